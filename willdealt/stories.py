"""Stories: who dies on which day."""

from willdealt.days import is_day
from willdealt.errors import NoDay, NoName, NoStory
from willdealt.names import is_name

MOST_DEATHS = 8


def is_death(thing, ahead):
    """Tell whether a thing of any kind can follow the death of the name AHEAD, None at first."""
    if not isinstance(thing, tuple) or len(thing) != 2:
        return False
    name, day = thing
    if not is_name(name) or not is_day(day):
        return False
    return ahead is None or name > ahead


def check_deaths(deaths):
    """Refuse what can't be a story's deaths."""
    if not isinstance(deaths, tuple) or len(deaths) > MOST_DEATHS:
        raise NoStory(None)
    ahead = None
    for number, death in enumerate(deaths):
        if not is_death(death, ahead):
            raise NoStory(number)
        ahead = death[0]


def story_text(deaths):
    """A story as it is written."""
    if len(deaths) == 0:
        return "none"
    return ", ".join([f"{name} {day}" for name, day in deaths])


class Story:
    """The days that people die on, which never change; all others live on."""

    def __init__(self, deaths=None):
        rows = () if deaths is None else deaths
        check_deaths(rows)
        self.deaths = rows

    def died(self, name):
        """The day that a name dies on, or None."""
        if not is_name(name):
            raise NoName(name)
        for one, day in self.deaths:
            if one == name:
                return day
        return None

    def lives(self, name, more=0):
        """Tell whether a name outlives a day."""
        day = self.died(name)
        if not is_day(more):
            raise NoDay(more)
        return day is None or day > more

    def __len__(self):
        return len(self.deaths)

    def __eq__(self, other):
        return isinstance(other, Story) and self.deaths == other.deaths

    def __str__(self):
        return str(story_text(self.deaths))

    def __repr__(self):
        return f"Story({story_text(self.deaths)})"
