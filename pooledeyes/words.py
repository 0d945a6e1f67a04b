"""Names and numbers."""

LETTERS = "abcdefghijklmnopqrstuvwxyz"
MOST_LETTERS = 6


def is_name(value):
    """Whether any value is a name: a string of 1 to 6 lowercase letters."""
    if not isinstance(value, str) or not 1 <= len(value) <= MOST_LETTERS:
        return False
    return all([letter in LETTERS for letter in value])


def is_number(value, least, most):
    """Whether any value is a number from least to most; True and False are none."""
    if isinstance(value, bool) or not isinstance(value, int):
        return False
    return least <= value <= most


def is_eye_row(value, least, most):
    """Whether any value is a list or tuple of different names, of at least and at most so many."""
    if not isinstance(value, (list, tuple)) or not least <= len(value) <= most:
        return False
    return all([is_name(name) for name in value]) and len(set(value)) == len(value)
