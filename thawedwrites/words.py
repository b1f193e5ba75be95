"""What an integer, a word and fields are."""

MOST_LETTERS = 8
MOST_FIELDS = 2


def is_integer(value):
    """True if the value is an int that is not a bool."""
    return isinstance(value, int) and not isinstance(value, bool)


def is_between(value, least, most):
    """True if the value is an integer from least to most."""
    return is_integer(value) and least <= value <= most


def is_word(value):
    """True if the value is a string of 1 to 8 letters from a to z."""
    if not isinstance(value, str) or not 1 <= len(value) <= MOST_LETTERS:
        return False
    return value.isascii() and value.isalpha() and value.islower()


def is_one_of(value, words):
    """True if the value is one of the words; the value may be of any kind."""
    return isinstance(value, str) and value in words


def are_words(value, least, most):
    """True if the value is a list or tuple of least to most unlike words."""
    if not isinstance(value, (list, tuple)) or not least <= len(value) <= most:
        return False
    return all([is_word(word) for word in value]) and len(set(value)) == len(value)


def are_fields(value):
    """True if the value is a list or tuple that may be the fields of a heap."""
    return are_words(value, 1, MOST_FIELDS)
