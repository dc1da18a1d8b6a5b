"""Tables of differences: upper bounds for the worths of some names, less one another and less the begin."""

from rowsintime.bounds import is_upper
from rowsintime.errors import BadBound, BadNames, NoName, SameName
from rowsintime.kinds import bad_name_at


class Table:
    """A table about a list of names; the begin is told as ""."""

    def __init__(self, names, bounds):
        bad = bad_name_at(names)
        if bad is not None:
            raise BadNames(bad)
        self._names = list(names)
        self._bounds = ordered_bounds(self._names, bounds)

    def names(self):
        return list(self._names)

    def bound(self, one, other):
        """The upper bound of what one is more than other, as it was told."""
        for name in (one, other):
            if not is_spot(self._names, name):
                raise NoName(name)
        if one == other:
            raise SameName(one)
        return self._bounds.get((one, other))

    def bounds(self):
        """All bounds that are not None, by pairs in order."""
        return {pair: self._bounds[pair] for pair in self._bounds}

    def __len__(self):
        return len(self._names)

    def __eq__(self, other):
        return isinstance(other, Table) and self._names == other._names and self._bounds == other._bounds


def is_spot(names, thing):
    """Whether any object is the begin or one of the names."""
    return isinstance(thing, str) and (thing == "" or thing in names)


def is_spot_pair(names, thing):
    if not isinstance(thing, tuple) or len(thing) != 2:
        return False
    return is_spot(names, thing[0]) and is_spot(names, thing[1]) and thing[0] != thing[1]


def ordered_bounds(names, bounds):
    """The bounds other than None, as tuples, in the order of the begin and the names."""
    if not isinstance(bounds, dict):
        raise BadBound(None)
    for key in bounds:
        if not is_spot_pair(names, key) or not is_upper(bounds[key]):
            raise BadBound(key)
    spots = [""] + names
    pairs = [(one, other) for one in spots for other in spots]
    return {pair: tuple(bounds[pair]) for pair in pairs if bounds.get(pair) is not None}
