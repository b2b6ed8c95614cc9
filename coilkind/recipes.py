"""Recipes: how things are made of other things, and which are made of fewest pieces.

A recipe is a tuple (sort, words, keys): a box with these words and for each of them a thing that one of the recipes of
its key makes, or a pick of one word, likewise.
"""

BARE_BOX = ("box", (), ())


class Making:
    """Recipes by keys, and how far each of them is done."""

    def __init__(self):
        self.recipes = {}
        self.users = {}
        self.missing = {}
        self.so_far = {}
        self.ready = {}

    def enter(self, key, recipes):
        """Takes the recipes of a key in; tells the keys of which they are made."""
        self.recipes[key] = recipes
        for at, (sort, words, keys) in enumerate(recipes):
            self.missing[(key, at)] = len(keys)
            self.so_far[(key, at)] = 1
            for behind in keys:
                self.users.setdefault(behind, []).append((key, at))
            if len(keys) == 0:
                self.put_ready((key, at))
        return [behind for sort, words, keys in recipes for behind in keys]

    def put_ready(self, use):
        """Lets a recipe whose keys are all found wait for its turn, by its pieces."""
        self.ready.setdefault(self.so_far[use], []).append(use)

    def go_on(self, key, many):
        """Tells all recipes that use a key how many pieces its thing has."""
        for use in self.users.get(key, []):
            self.missing[use] -= 1
            self.so_far[use] += many
            if self.missing[use] == 0:
                self.put_ready(use)


def cheapest(first, recipes_of):
    """By keys, of those met from the first one on, a tuple: the fewest pieces of a thing that is made by a recipe of
    theirs, and that recipe. Keys without such things are left out; no key stands ahead of those it is made of."""
    making = entered(first, recipes_of)
    found = {}
    while making.ready:
        # What is made of others has more pieces than each of them: so none that comes later has fewer.
        many = min(making.ready)
        uses = making.ready.pop(many)
        for key, at in uses:
            if key not in found:
                found[key] = (many, making.recipes[key][at])
                making.go_on(key, many)
    return found


def entered(first, recipes_of):
    """The recipes of the first key and of all that these are made of."""
    making = Making()
    waiting = [first]
    seen = {first}
    while waiting:
        key = waiting.pop()
        for behind in making.enter(key, recipes_of(key)):
            if behind not in seen:
                seen.add(behind)
                waiting.append(behind)
    return making


def made_within(found, most):
    """By keys the things of at most so many pieces that found recipes make."""
    things = {}
    for key, (many, recipe) in found.items():
        if many <= most:
            sort, words, keys = recipe
            inner = [things[behind] for behind in keys]
            things[key] = (sort, tuple(zip(words, inner))) if sort == "box" else (sort, words[0], inner[0])
    return things
