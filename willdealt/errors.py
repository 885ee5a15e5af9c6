"""All refusals, in three families, each with the field that says what was refused."""


class WordError(ValueError):
    """Something handed in is not what it must be."""


class LostError(LookupError):
    """Something asked for is not there."""


class RoomError(ArithmeticError):
    """There would be more than there is room for."""


class NoName(WordError):
    """The thing is no name."""

    def __init__(self, thing):
        self.thing = thing


class NoSum(WordError):
    """The thing is no sum, or a sum out of bounds."""

    def __init__(self, thing):
        self.thing = thing


class NoShares(WordError):
    """What was handed in can't be shares of anything."""


class NoPeople(WordError):
    """The person of this number can't be one of a house's people."""

    def __init__(self, number):
        self.number = number


class NoGoods(WordError):
    """The thing of this number can't be one of a house's goods."""

    def __init__(self, number):
        self.number = number


class NoText(WordError):
    """The line of this number isn't written as it must be."""

    def __init__(self, line):
        self.line = line


class NoStory(WordError):
    """The death of this number can't be one of a story's."""

    def __init__(self, number):
        self.number = number


class NoDay(WordError):
    """The thing is no day, or a day out of bounds."""

    def __init__(self, thing):
        self.thing = thing


class NoCond(WordError):
    """What was handed in is no condition."""


class NoWhom(WordError):
    """What was handed in doesn't say to whom something goes."""


class NoClause(WordError):
    """The clause of this number can't be one of a will's."""

    def __init__(self, number):
        self.number = number


class NoReading(WordError):
    """The thing is no way of reading a will."""

    def __init__(self, thing):
        self.thing = thing


class NoWord(WordError):
    """The thing is no word for a kind of paper."""

    def __init__(self, thing):
        self.thing = thing


class LabelStands(WordError):
    """One of the papers has this name for its label."""

    def __init__(self, name):
        self.name = name


class DayStands(WordError):
    """One of the papers has this thing for its day."""

    def __init__(self, thing):
        self.thing = thing


class NoRow(WordError):
    """What was said is no row that a desk knows."""


class NoPerson(LostError):
    """The house has no person of this name."""

    def __init__(self, name):
        self.name = name


class NoThing(LostError):
    """The house has no thing of this name."""

    def __init__(self, name):
        self.name = name


class NoLabel(LostError):
    """No paper has this name for its label."""

    def __init__(self, name):
        self.name = name


class NoUndo(LostError):
    """There is nothing left to undo."""


class TooMany(RoomError):
    """There would be this many, which is too many."""

    def __init__(self, many):
        self.many = many
