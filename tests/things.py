"""What several tests hand in: things of any kind, and things put otherwise in one place."""

from fractions import Fraction


class Own:
    """A thing of a kind that the program doesn't know."""


class Alike:
    """A thing that calls itself equal to everything."""

    def __eq__(self, other):
        return True


def deep(thing, many):
    """A thing within MANY lists and tuples."""
    for turn in range(many):
        thing = (thing,) if turn & 1 else [thing]
    return thing


# None of these is a name, a whole number, a day, or anything that a house, story or will is made of.
ANY_KIND = (
    None, True, False, "", " ", "Ann", "crown", "else", "x" * 9, "ann\n", b"", b"ann", b"near", (), [], {},
    ("ann",), ["ann"], {"ann": 1}, {"ann"}, frozenset(("ann",)), (None,), ((),), ("", ""), Own(), Alike(), Own, len,
    range(3), Fraction(1, 2), 10 ** 4000, -(10 ** 4000), deep("ann", 7), deep((), 7), deep({}, 7),
)

THIRTEEN = "all and children childless crown else if lives not of or stock to".split()

# Each is one sign or one word away from a name.
NO_NAMES = ("", "abcdefghi", "Ann", "ann ", " ann", "a b", "an1", "-", "(", ")", "0", *THIRTEEN)


def other_leaves(leaf):
    """Things of other kinds than a text or a whole number, that look like it."""
    if isinstance(leaf, str):
        return [leaf.encode(), (leaf,), [leaf], None, True, 5, leaf.upper() + "X", {leaf: 1}, Own(), Alike()]
    return [str(leaf), (leaf,), [leaf], None, True, False, Fraction(leaf), {leaf: leaf}, Own(), Alike()]


def otherwise(thing):
    """All that a thing of tuples, texts and whole numbers becomes with one place of it put otherwise.

    Tuples become lists, dicts and others, or have a None more; texts and whole numbers become things of
    other kinds. (A tuple with a part fewer may be as good as before, so it isn't among these.)
    """
    if not isinstance(thing, tuple):
        return other_leaves(thing)
    told = [list(thing), dict(enumerate(thing)), str(thing), 7, True, Own(), thing + (None,), (thing,)]
    for at, part in enumerate(thing):
        if part is not None:
            told += [thing[:at] + (other,) + thing[at + 1:] for other in otherwise(part)]
    return told
