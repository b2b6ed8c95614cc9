"""Kinding: the least kind of a maker."""

from coilkind.bounds import bound
from coilkind.least import least, put_together
from coilkind.makers import makers_in
from coilkind.within import lies_within


def kind_of(T, maker):
    """("kind", telling) by the least kind of a maker, or ("ill", place) by the first one in it that is at fault."""
    return kind_with(T, {}, maker)


def kind_with(T, known, maker):
    """What is told of a maker where names have the kinds that known tells: least tellings, as all kinds here."""
    if maker[0] == "fn":
        return kind_of_fn(T, known, maker)
    if maker[0] == "split":
        return kind_of_split(T, known, maker)
    kinds = []
    for k in range(len(makers_in(maker))):
        found = kind_at(T, known, maker, k)
        if found[0] == "ill":
            return found
        kinds.append(found[1])
    kind = kind_made(T, known, maker, kinds)
    return ("ill", ()) if kind is None else ("kind", kind)


def kind_at(T, known, maker, k):
    """What is told of the maker numbered k in one, a place being one in the whole."""
    found = kind_with(T, known, makers_in(maker)[k])
    return ("ill", (k,) + found[1]) if found[0] == "ill" else found


def kind_of_fn(T, known, maker):
    """What is told of an fn."""
    form, v, x, inner = maker
    taken = least(T, x)
    found = kind_at(T, with_kind(known, v, taken), maker, 0)
    return found if found[0] == "ill" else ("kind", put_together("way", [taken, found[1]]))


def kind_of_split(T, known, maker):
    """What is told of a split."""
    found = kind_at(T, known, maker, 0)
    if found[0] == "ill" or first_head(found[1])[0] == "none":
        return found
    picked = found[1]
    form, cases = first_head(picked)[0], ends_by_words(picked)
    rows = {w: (k + 1, v) for k, (w, v, inner) in enumerate(maker[2])}
    if form != "pick" or not all([word in rows for word in cases]):
        return ("ill", ())
    kinds = []
    for word, x in cases.items():
        k, v = rows[word]
        found = kind_at(T, with_kind(known, v, least(picked, x)), maker, k)
        if found[0] == "ill":
            return found
        kinds.append(found[1])
    return ("kind", bound(1, kinds))


def kind_made(T, known, maker, kinds):
    """The kind of a maker, but of an fn or a split, by the kinds of those in it; None where it is at fault."""
    form = maker[0]
    if form == "get":
        return known.get(maker[1])
    if form == "call":
        return kind_called(kinds[0], kinds[1])
    if form == "box":
        return put_together("box", list(zip([word for word, inner in maker[1]], kinds)))
    if form == "part":
        return kind_of_part(kinds[0], maker[2])
    if form == "pick":
        return put_together("pick", [(maker[1], kinds[0])])
    return least(T, maker[2]) if lies_within(kinds[0], kinds[0][0][0], T, maker[2]) else None


def kind_called(called, handed):
    """The kind of a call of what is of one kind by what is of another; None where it is at fault."""
    head = first_head(called)
    if head[0] == "none":
        return called
    if head[0] != "way" or not lies_within(handed, handed[0][0], called, head[1]):
        return None
    return least(called, head[2])


def kind_of_part(whole, word):
    """The kind of the part of a word of what is of a kind; None where it is at fault."""
    head = first_head(whole)
    if head[0] == "none":
        return whole
    if head[0] != "box" or word not in ends_by_words(whole):
        return None
    return least(whole, ends_by_words(whole)[word])


def first_head(T):
    """The head of a least telling's first row."""
    return T[0][1]


def ends_by_words(T):
    """The names in the head of a least telling's first row by its words; none where it has no words."""
    head = first_head(T)
    return {word: x for word, x in head[1]} if head[0] in ("box", "pick") else {}


def with_kind(known, v, kind):
    """Known kinds, and that of one name more, or of one anew."""
    more = dict(known)
    more[v] = kind
    return more
