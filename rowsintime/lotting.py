"""Lots of as few things as can be."""


def lots_of_many(things, many):
    """All tuples of so many of some ascending things, ascending, in order."""
    found = [((), 0)]
    for _ in range(many):
        found = [(lot + (things[at],), at + 1) for lot, start in found for at in range(start, len(things))]
    return [lot for lot, _ in found]


def fewest_lots(things, is_enough):
    """All tuples, ascending, of as few of some ascending things as can be that are enough, in order; [] if none are."""
    for many in range(len(things) + 1):
        found = [lot for lot in lots_of_many(things, many) if is_enough(lot)]
        if found:
            return found
    return []
