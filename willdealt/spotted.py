"""The spots of a draft (drafts.py), and the clause that it tells where some of them are read wide."""

from willdealt.errors import NoText
from willdealt.wills import is_clause


def tree_spots(tree):
    """Where the spots of a COND's tree begin, from the left."""
    if tree is None or tree[0] in ("lives", "childless"):
        return []
    if tree[0] == "not":
        return tree_spots(tree[1])
    word, at, terms, joins = tree
    own = [at] if "and" in joins and "or" in joins else []
    # A row begins ahead of the brackets in it, so its own spot comes first.
    return own + [spot for term in terms for spot in tree_spots(term)]


def draft_spots(draft):
    """The numbers of the words with which a draft's spots begin, from the left."""
    word, what, rows, tree = draft
    if rows is None:
        return []
    own = [at for items in rows for kin, names, behind, at in items if len(behind) > 0]
    return own + tree_spots(tree)


def joined(word, conds):
    """One condition of several, or the one there is."""
    return conds[0] if len(conds) == 1 else (word, *conds)


def held_together(first, conds, joins):
    """The conditions that are left where those with the word FIRST between are made one."""
    groups = [[conds[0]]]
    for word, cond in zip(joins, conds[1:]):
        if word == first:
            groups[-1].append(cond)
        else:
            groups.append([cond])
    return [joined(first, group) for group in groups]


def cond_of(tree, wide):
    """The COND of a tree, the spots that begin at the words WIDE being read wide."""
    if tree is None or tree[0] in ("lives", "childless"):
        return tree
    if tree[0] == "not":
        return ("not", cond_of(tree[1], wide))
    word, at, terms, joins = tree
    conds = [cond_of(term, wide) for term in terms]
    if at in wide:
        return joined("and", held_together("or", conds, joins))
    return joined("or", held_together("and", conds, joins))


def item_parts(item, wide):
    """The parts that an item tells."""
    word, names, behind, at = item
    last = word if at in wide else "one"
    return [(word, name) for name in names] + [(last, name) for name in behind]


def whom_of(rows, wide):
    """The WHOM of lists of items."""
    return tuple([tuple([part for item in items for part in item_parts(item, wide)]) for items in rows])


def clause_of(draft, wide, line):
    """The clause that a draft tells; one that is none is refused by the number of its LINE."""
    word, what, rows, tree = draft
    clause = (word, what) if rows is None else (word, what, whom_of(rows, wide), cond_of(tree, wide))
    if not is_clause(clause):
        raise NoText(line)
    return clause
