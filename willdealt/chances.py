"""What might be, whoever dies when."""

from willdealt.cases import cases
from willdealt.courses import check_names, is_gift
from willdealt.dealing import deal


def case_dealings(house, will):
    """The (STORY, DEALING) of all cases, those with fewer deaths ahead."""
    # Ahead of the cases, as a strange name is refused ahead of too many of them.
    check_names(house, will)
    return [(case, deal(house, will, case)) for case in cases(house, will)]


def does(dealing, number):
    """Tell whether the clause of a number isn't fallen in a dealing."""
    return all([fallen != number for fallen, reason in dealing.fallen()])


def first_doing(rows, number):
    """The first story of (STORY, DEALING) rows in which a clause does something, None where it never does."""
    for case, dealing in rows:
        if does(dealing, number):
            return case
    return None


def doing(house, will):
    """The (NUMBER, STORY) of all gifts, STORY one of the fewest deaths in which the clause isn't fallen."""
    rows = case_dealings(house, will)
    gifts = [number for number, clause in enumerate(will.clauses()) if is_gift(clause)]
    return tuple([(number, first_doing(rows, number)) for number in gifts])


def bounds(rows, name):
    """The (NAME, LEAST, STORY, MOST, OTHER) of a name in (STORY, DEALING) rows."""
    nets = [(dealing.net(name), case) for case, dealing in rows]
    least = min(nets, key=lambda row: row[0])
    most = max(nets, key=lambda row: row[0])
    return (name, *least, *most)


def might(house, will):
    """The least and the most that each of the people, and the crown, might have, and cases in which it is so."""
    rows = case_dealings(house, will)
    return tuple([bounds(rows, name) for name in house.people() + ("crown",)])
