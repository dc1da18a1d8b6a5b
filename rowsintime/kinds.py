"""The kinds of values that all parts of the package speak of."""

LETTERS = "abcdefghijklmnopqrstuvwxyz"
LONGEST_NAME = 8


def letters(number):
    """The name with this number: a to z, aa, ab and so on."""
    name = ""
    number = number + 1
    while number > 0:
        number = number - 1
        name = LETTERS[number % 26] + name
        number = number // 26
    return name


def is_integer(thing):
    return isinstance(thing, int) and not isinstance(thing, bool)


def is_count(thing):
    return is_integer(thing) and thing >= 0


def is_list(thing):
    return isinstance(thing, (list, tuple))


def is_name(thing):
    if not isinstance(thing, str) or not 1 <= len(thing) <= LONGEST_NAME:
        return False
    return all([letter in LETTERS for letter in thing])


def is_fraction(thing):
    if not is_list(thing) or len(thing) != 2:
        return False
    return is_integer(thing[0]) and is_integer(thing[1]) and thing[1] >= 1


def is_time(thing):
    return is_fraction(thing) and thing[0] >= 0


def bad_name_at(things):
    """The index of the first thing that is no name or stood before, 0 for no list; None if all are well."""
    if not is_list(things):
        return 0
    seen = {}
    for at, thing in enumerate(things):
        # What is no string may not be fit for a key, so it is looked at first.
        if not is_name(thing) or thing in seen:
            return at
        seen[thing] = True
    return None


def bad_choice_at(things, names):
    """The index of the first thing that is none of names or stood before, 0 for no list; None if all are well."""
    if not is_list(things):
        return 0
    left = {name: True for name in names}
    for at, thing in enumerate(things):
        if not isinstance(thing, str) or thing not in left:
            return at
        del left[thing]
    return None
