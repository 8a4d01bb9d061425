"""The forms of values, told apart more strictly than by equality."""

MOST_NUMBER = 1000000


def is_integer(value):
    """Whether a value is an integer; True and False are none."""
    return isinstance(value, int) and not isinstance(value, bool)


def is_plain(value):
    """Whether a value is a string or an integer."""
    return isinstance(value, str) or is_integer(value)


def is_flat(value):
    """Whether a value is a string, an integer, or a tuple of such.

    Worlds, phases and moves are. A value that is can be a key of a dict, and
    equals a world, a phase or a move only if it is this very one: True, which
    equals 1, is none of them.
    """
    if isinstance(value, tuple):
        return all([is_plain(item) for item in value])
    return is_plain(value)


def is_number(value):
    """Whether a value is a number as rows have them: an integer from 0 to 1000000."""
    return is_integer(value) and 0 <= value <= MOST_NUMBER


def is_row(value):
    """Whether a value is a row of something: a list or a tuple."""
    return isinstance(value, (list, tuple))


def is_pair(value):
    """Whether a value is a pair: a tuple of two."""
    return isinstance(value, tuple) and len(value) == 2


def is_row_of_keys(value):
    """Whether a value is a row of different numbers."""
    return is_row(value) and all([is_number(key) for key in value]) and len(set(value)) == len(value)


def is_number_dict(value):
    """Whether a value is a dict from numbers to numbers."""
    return isinstance(value, dict) and all([is_number(key) and is_number(value[key]) for key in value])


def is_word_and_numbers(value, forms):
    """Whether a value is a tuple of a word and so many numbers as one of these pairs tells."""
    if not isinstance(value, tuple) or not value or not isinstance(value[0], str):
        return False
    return (value[0], len(value) - 1) in forms and all([is_number(part) for part in value[1:]])
