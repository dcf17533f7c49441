"""The document of a set, for a hand or for nobody."""

from pagefolk.deeds import MAIN
from pagefolk.leaves import has_leave
from pagefolk.marks import marks_of, notes_of
from pagefolk.parts import all_inner_parts
from pagefolk.signs import living
from pagefolk.tables import table_of


def may_read(facts, roll, hand, part):
    return hand is None or has_leave(roll, facts["births"], facts["leaves"], hand, part, "read")


def inner_number(number, place):
    return f"{place}" if number == "" else f"{number}.{place}"


def numbered_parts(facts, roll, hand):
    """A list of tuples (part, number, whether it is open), one for each entry, in order."""
    inner = all_inner_parts(facts)
    told = []
    # What is still to come, the next one last; a list, as parts may lie deep in one another.
    to_come = [(MAIN, "")]
    while len(to_come) > 0:
        coming = to_come.pop()
        is_open = may_read(facts, roll, hand, coming[0])
        told.append(coming + (is_open,))
        if is_open:
            within = list(enumerate(inner.get(coming[0], []), start=1))
            to_come.extend([(part, inner_number(coming[1], place)) for place, part in within[::-1]])
    return told


def text_of_sign(numbers, sign):
    """The text of a sign; numbers is a dict from the parts that have an entry."""
    if isinstance(sign, str):
        return sign
    if sign[0] == "picture":
        return "*" + sign[1]
    return "#" + numbers.get(sign[1], "?")


def shown_row(facts, part, numbers):
    signs = dict([(fact[1], fact[4]) for fact in facts["signs"] if fact[0] == part])
    marks = marks_of(facts, part)
    return [(name, text_of_sign(numbers, signs[name]), marks[name]) for name in living(facts, part)]


def entry(facts, numbers, part, is_open):
    if not is_open:
        return (numbers[part], part, None, None, None)
    return (numbers[part], part, shown_row(facts, part, numbers), notes_of(facts, part), table_of(facts, part))


def document(facts, roll, hand=None):
    told = numbered_parts(facts, roll, hand)
    numbers = dict([(part, number) for part, number, is_open in told])
    return [entry(facts, numbers, part, is_open) for part, number, is_open in told]
