"""Stories read from texts."""

from willdealt.errors import NoStory, NoText
from willdealt.figures import read_day
from willdealt.stories import Story


def read_death(text):
    """The (NAME, DAY) that a text tells; None, for the whole or the day, where it is written otherwise."""
    words = text.split(" ")
    return (words[0], read_day(words[1])) if len(words) == 2 else None


def read_story(text):
    """The story that a text tells."""
    if not isinstance(text, str):
        raise NoText(None)
    if text == "none":
        return Story()
    try:
        return Story(tuple([read_death(part) for part in text.split(", ")]))
    except NoStory:
        raise NoText(0) from None
