"""Papers: what a sign rests on where it is shown, and why it isn't where it isn't; and papers of order."""

from pagefolk.deeds import MAIN
from pagefolk.facts import facts_of
from pagefolk.judging import Judge
from pagefolk.marks import telling_marks
from pagefolk.parts import stood_in, telling_places, way_out
from pagefolk.rows import line_of
from pagefolk.signs import signs_in


def first_cut(facts, way):
    """The place on the way of the first part that is cut and the cut's name, or None."""
    cuts = dict(facts["cuts"])
    for place, part in enumerate(way):
        if part in cuts:
            return (place, cuts[part])
    return None


def naming_out(folk, counting, sign):
    """A counting out that names the sign, or None."""
    for name in counting:
        what = folk.deed(name)[4]
        if what[0] == "out" and sign in what[2]:
            return name
    return None


def part_of_sign(facts, name):
    return [fact[0] for fact in facts["signs"] if fact[1] == name][0]


def paper_for(folk, name):
    facts = facts_of(folk)
    counting = Judge(folk).counting()
    part = part_of_sign(facts, name)
    telling = telling_places(facts)
    # The last part on the way has no place: it is the main one, or lost.
    way = way_out(stood_in(telling), part, {})
    steps = [telling[one][2] for one in way[:-1]]
    cut = first_cut(facts, way)
    out = naming_out(folk, counting, name)
    if name[:2] not in counting:
        return ("unput",)
    if out is not None:
        return ("out", out)
    if cut is not None:
        return ("cut", steps[:cut[0]], cut[1])
    if way[-1] != MAIN:
        return ("lost", steps)
    return ("shown", steps, telling_marks(facts, part)[name])


def order_paper(folk, one, other):
    facts = facts_of(folk)
    places = [fact[1:4] for fact in signs_in(facts, part_of_sign(facts, one))]
    return (line_of(places, one), line_of(places, other))
