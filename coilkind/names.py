"""Names: short texts of small letters."""

LETTERS = "abcdefghijklmnopqrstuvwxyz"
LONGEST = 8
NO_NAMES = ("all", "none", "way", "box", "pick")


def is_name(thing):
    """Whether thing, which may be anything, is a name."""
    if not isinstance(thing, str) or not 1 <= len(thing) <= LONGEST:
        return False
    return thing not in NO_NAMES and all([sign in LETTERS for sign in thing])


def are_rising(words):
    """Whether things, which may be anything, are names, rising, each once."""
    return all([is_name(word) for word in words]) and all([ahead < behind for ahead, behind in zip(words, words[1:])])
