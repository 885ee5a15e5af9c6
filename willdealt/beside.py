"""Wills, and the readings of one, side by side."""

from willdealt.cases import cases_of_days, hours
from willdealt.courses import check_names
from willdealt.dealing import deal
from willdealt.readings import readings


def gains(one, other):
    """The (NAME, BY), rising, of all whose nets in two dealings differ, BY the other's less the one's."""
    names = sorted(set(one.takers() + other.takers()))
    rows = [(name, other.net(name) - one.net(name)) for name in names]
    return tuple([(name, by) for name, by in rows if by != 0])


def parting(house, one, other):
    """A story of the fewest deaths in which two wills don't deal alike, and its gains; None where there is none."""
    check_names(house, one)
    check_names(house, other)
    days = sorted(set(hours(one) + hours(other)))
    for case in cases_of_days(house, days):
        first = deal(house, one, case)
        second = deal(house, other, case)
        if first != second:
            return (case, gains(first, second))
    return None


def by_readings(house, text, story):
    """The dealings by all readings of a will's text."""
    return tuple([deal(house, will, story) for will in readings(text)])


def disputed(house, text, story):
    """The (NAME, LEAST, MOST), rising, of all whose net isn't the same in all readings of a will's text."""
    dealings = by_readings(house, text, story)
    names = sorted(set([name for dealing in dealings for name in dealing.takers()]))
    rows = [(name, [dealing.net(name) for dealing in dealings]) for name in names]
    bounds = [(name, min(nets), max(nets)) for name, nets in rows]
    return tuple([(name, least, most) for name, least, most in bounds if least != most])
