"""Stretches: sorts of all things from a least to a greatest one."""


def sizes_of(rule):
    """The sizes of which a rule of size and all alone is made, or None of another rule."""
    if rule[0] == "size":
        return [rule]
    if rule[0] != "all":
        return None
    sizes = []
    for part in rule[1:]:
        found = sizes_of(part)
        if found is None:
            return None
        sizes.extend(found)
    return sizes


def least_in(sort):
    """The least thing of the sort, or None where it is no stretch."""
    sizes = sizes_of(sort[2])
    if sizes is None:
        return None
    return tuple([
        max([number for word, at, number in sizes if at == place], default=0) for place in range(len(sort[1]))
    ])


def least_of(lot, name):
    """The least thing of the sort of this name, or None where it is no stretch."""
    return least_in(lot.sort_of(name))
