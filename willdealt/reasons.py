"""Why a thing goes where it goes."""

from willdealt.courses import Course, check_names
from willdealt.houses import check_thing


def why(house, will, story, thing):
    """The (NUMBER, WORD) of the clauses that were looked at for a thing, up to the one that gives it."""
    check_names(house, will)
    check_thing(house, thing)
    course = Course(house, will, story)
    told = []
    for number in course.looked_at(thing):
        told.append((number, course.ends[number][0]))
        if course.goes(number):
            return tuple(told)
    return (*told, (None, "rest"))
