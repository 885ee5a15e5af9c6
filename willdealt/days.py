"""What a day is, counted from the maker's death."""

from willdealt.pennies import is_whole

LAST_DAY = 9999


def is_day(thing):
    """Tell whether a thing of any kind is a day."""
    return is_whole(thing) and -LAST_DAY <= thing <= LAST_DAY
