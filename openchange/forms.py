"""The forms of values, told apart more strictly than by equality."""


def is_integer(value):
    """Whether a value is an integer; True and False are none."""
    return isinstance(value, int) and not isinstance(value, bool)


def is_plain(value):
    """Whether a value is a string or an integer."""
    return isinstance(value, str) or is_integer(value)


def is_flat(value):
    """Whether a value is a string, an integer, or a tuple of such.

    Worlds, phases and moves are. A value that is can be a key of a dict, and
    equals a world, a phase or a move only if it is this very one: True, which
    equals 1, is none of them.
    """
    if isinstance(value, tuple):
        return all([is_plain(item) for item in value])
    return is_plain(value)
