"""What the modules ask of values that they are passed: integers, words, names and maps to names."""

DIGITS = "0123456789"
WORD_SIGNS = 12
NAME_WORDS = 64


def is_whole(value):
    """Whether a value is an integer; True and False are none."""
    return isinstance(value, int) and not isinstance(value, bool)


def is_digits(text):
    """Whether a text has one sign or more, all of them ASCII digits."""
    return len(text) > 0 and all([sign in DIGITS for sign in text])


def is_word(value):
    """Whether a value is a name of one word."""
    if not isinstance(value, str) or not 1 <= len(value) <= WORD_SIGNS:
        return False
    return value.isascii() and value.isalnum() and value[0].isalpha() and value == value.lower()


def is_name(value):
    """Whether a value is a name: words joined by slashes."""
    if not isinstance(value, str):
        return False
    if "/" not in value:
        return is_word(value)
    words = value.split("/")
    return len(words) <= NAME_WORDS and all([is_word(word) for word in words])


def are_different_words(values):
    """Whether all members of a list or tuple are words, none of them twice."""
    return all([is_word(value) for value in values]) and len(set(values)) == len(values)


def are_names(values, many):
    """Whether a value is a list or tuple of this many names."""
    if not isinstance(values, (list, tuple)) or len(values) != many:
        return False
    return all([is_name(value) for value in values])


def is_net_map(nets):
    """Whether a value is a dict to names."""
    return isinstance(nets, dict) and all([is_name(net) for net in nets.values()])
