"""Whole numbers, names, and plain copies of what is handed in."""

LETTERS = "abcdefghijklmnopqrstuvwxyz"
MOST_LETTERS = 8


def is_whole(thing):
    """Whether it is an int that is no truth."""
    return isinstance(thing, int) and not isinstance(thing, bool)


def is_whole_from(thing, least, greatest):
    """Whether it is a whole number from the least to the greatest one."""
    return is_whole(thing) and least <= thing <= greatest


def is_name(thing):
    """Whether it is a text of one to eight small letters."""
    if not isinstance(thing, str) or not 1 <= len(thing) <= MOST_LETTERS:
        return False
    return all([letter in LETTERS for letter in thing])


def is_list(thing):
    """Whether it may be handed in as a list: a tuple will do."""
    return isinstance(thing, (list, tuple))


def copied(thing):
    """A copy, all through, in which numbers, texts, tuples, lists and dicts are plain ones."""
    if is_whole(thing):
        return int(thing)
    if isinstance(thing, str):
        # str(..) would ask a derived class how it wants to be shown; its letters alone are wanted.
        return "".join([thing])
    if isinstance(thing, tuple):
        return tuple([copied(part) for part in thing])
    if isinstance(thing, list):
        return [copied(part) for part in thing]
    if isinstance(thing, dict):
        return {key: copied(part) for key, part in thing.items()}
    return thing
