"""The kinds of values that the document tells apart [A3]."""


def is_integer(value):
    """Tell whether value is an integer; a bool is none."""
    return isinstance(value, int) and not isinstance(value, bool)


def is_tuple_of(value, count):
    """Tell whether value is a tuple of count items; a list is none."""
    return isinstance(value, tuple) and len(value) == count


def is_row(value, count):
    """Tell whether value is a tuple of count integers."""
    return is_tuple_of(value, count) and all(is_integer(item) for item in value)
