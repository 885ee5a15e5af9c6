"""Houses read from texts, and written."""

from willdealt.errors import NoText
from willdealt.figures import read_number
from willdealt.houses import MOST_GOODS, MOST_PEOPLE, House, is_good, is_person
from willdealt.pennies import is_sum

# People come behind the lines of the purse and the debts.
PEOPLE_FROM = 2


def read_amount(rows, line, word):
    """The sum that the line of a number tells behind a word."""
    words = rows[line].split(" ") if line < len(rows) else []
    if len(words) != 2 or words[0] != word:
        raise NoText(line)
    amount = read_number(words[1])
    if not is_sum(amount):
        raise NoText(line)
    return amount


def read_person(words):
    """The (NAME, PARENT) that a line's words tell, None where it is written otherwise."""
    if words[0] != "person":
        return None
    if len(words) == 2:
        return (words[1], None)
    return (words[1], words[3]) if len(words) == 4 and words[2] == "of" else None


def read_thing(words):
    """The (NAME, KIND, WORTH) that a line's words tell, None where it is written otherwise."""
    if len(words) != 4 or words[0] != "thing":
        return None
    return (words[1], words[2], read_number(words[3]))


def read_people(rows):
    """The people of a house's lines, up to the first line of a thing."""
    people = []
    for line, row in enumerate(rows[PEOPLE_FROM:], start=PEOPLE_FROM):
        words = row.split(" ")
        if words[0] == "thing" and len(people) > 0:
            break
        person = read_person(words)
        if len(people) == MOST_PEOPLE or not is_person(person, [each[0] for each in people]):
            raise NoText(line)
        people.append(person)
    if len(people) == 0:
        raise NoText(len(rows))
    return people


def read_goods(rows, first):
    """The goods of a house's lines, from the number of the first such line on."""
    goods = []
    for line, row in enumerate(rows[first:], start=first):
        thing = read_thing(row.split(" "))
        if len(goods) == MOST_GOODS or not is_good(thing, [each[0] for each in goods]):
            raise NoText(line)
        goods.append(thing)
    return goods


def read_house(text):
    """The house that a text tells."""
    if not isinstance(text, str):
        raise NoText(None)
    rows = text.split("\n")
    purse = read_amount(rows, 0, "purse")
    debts = read_amount(rows, 1, "debts")
    people = read_people(rows)
    goods = read_goods(rows, PEOPLE_FROM + len(people))
    return House(tuple(people), tuple(goods), purse, debts)


def show_house(house):
    """The text of a house."""
    return str(house)
