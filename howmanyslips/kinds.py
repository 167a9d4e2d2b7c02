"""What kind a value is, asked of values of any kind at all."""


def is_integer_from(thing, least):
    """Whether any value is an integer, True and False being none, and not below the least one."""
    return isinstance(thing, int) and not isinstance(thing, bool) and thing >= least


def is_index(thing, many):
    """Whether any value is a position among so many things, counted from 0."""
    return is_integer_from(thing, 0) and thing < many


def is_tuple_of(thing, many):
    """Whether any value is a tuple with so many items."""
    return isinstance(thing, tuple) and len(thing) == many


def is_rising(things):
    """Whether each of the integers, or of the tuples of integers, is greater than the one before it."""
    return all([one < other for one, other in zip(things, things[1:])])
