"""Whether a value is a whole number between two bounds."""


def is_from(value, low, high):
    # A truth is an int to Python, but no whole number.
    return isinstance(value, int) and not isinstance(value, bool) and low <= value <= high
