"""What a name is, and what is one of some words."""

LETTERS = "abcdefghijklmnopqrstuvwxyz"
LONGEST = 8

# These have a meaning of their own in a will's text.
WORDS = (
    "all", "and", "children", "childless", "crown", "else", "if",
    "lives", "not", "of", "or", "stock", "to",
)


def is_word(thing, words):
    """Tell whether a thing of any kind is one of some words."""
    # Things of other kinds aren't compared: they may call themselves equal to a text.
    return isinstance(thing, str) and thing in words


def is_name(thing):
    """Tell whether a thing of any kind is a name."""
    if not isinstance(thing, str) or not 1 <= len(thing) <= LONGEST:
        return False
    return thing not in WORDS and all([sign in LETTERS for sign in thing])
