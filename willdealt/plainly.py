"""Clauses plainly written, so that they can be read in one way only."""


def plain_part(part):
    """A part of an alternative; brackets keep what follows from being read as of it."""
    word, name = part
    return name if word == "one" else f"( {word} of {name} )"


def plain_whom(whom):
    """To whom something goes."""
    rows = [" and ".join([plain_part(part) for part in alternative]) for alternative in whom]
    return " else ".join(rows)


def plain_term(cond):
    """A condition that stands within another one."""
    text = plain_cond(cond)
    return f"( {text} )" if cond[0] in ("and", "or") else text


def plain_cond(cond):
    """A condition that stands alone."""
    word = cond[0]
    if word == "not":
        return "not " + plain_term(cond[1])
    if word == "and" or word == "or":
        return f" {word} ".join([plain_term(term) for term in cond[1:]])
    return " ".join([str(each) for each in cond])


def plain_clause(clause):
    """The line of a clause."""
    word, what = clause[0], clause[1]
    if word == "ranks":
        return "ranks " + " ".join(what)
    if word == "wait":
        return f"wait {what}"
    head = f"give all {what}" if word == "kind" else f"{word} {what}"
    line = f"{head} to {plain_whom(clause[2])}"
    return line if clause[3] is None else f"{line} if {plain_cond(clause[3])}"
