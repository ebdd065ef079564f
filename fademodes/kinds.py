"""What kinds of plain values there are: integers, names, positions, lists."""

LETTERS = "abcdefghijklmnopqrstuvwxyz"
LONGEST_WORD = 8


def is_integer(value):
    """Tell whether any value is an INTEGER."""
    return isinstance(value, int) and not isinstance(value, bool)


def is_position(value, many):
    """Tell whether any value is a position in a list with so many elements."""
    return is_integer(value) and 0 <= value < many


def is_list(value):
    """Tell whether any value counts as a list: a tuple does, too."""
    return isinstance(value, (list, tuple))


def is_name(value):
    """Tell whether any value is a NAME."""
    if not isinstance(value, str):
        return False
    words = value.split(".")
    return len(words) <= 2 and all([_is_word(word) for word in words])


def _is_word(text):
    return 1 <= len(text) <= LONGEST_WORD and all([letter in LETTERS for letter in text])


def has_names(value):
    """Tell whether any value is a dict whose keys are NAMES."""
    return isinstance(value, dict) and all([is_name(key) for key in value])


def is_one_of(value, names):
    """Tell whether any value is one of these names.

    Not every value can be looked up in a dict, so its kind is asked for first.
    """
    return isinstance(value, str) and value in names
