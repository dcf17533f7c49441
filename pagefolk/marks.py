"""What marks cover, which of them tell, and where notes hang."""

from pagefolk.signs import living, row_of


def place_of_side(seats, side):
    """How many places of the row are ahead of a side; seats is a dict from the row's signs to their places.

    None is the row's end, and so is a sign of another row: facts that no set brings may name one.
    """
    if side is None or side[0] not in seats:
        return len(seats)
    return seats[side[0]] + (1 if side[1] == "behind" else 0)


def stretch(seats, begin, end):
    """The places from which and up to which all is covered, the last one left out."""
    first = place_of_side(seats, begin)
    return (first, max(first, place_of_side(seats, end)))


def seats_in(row):
    return dict([(name, seat) for seat, name in enumerate(row)])


def covered(facts, part, begin, end):
    row = row_of(facts, part)
    between = stretch(seats_in(row), begin, end)
    return row[between[0]:between[1]]


def key_of_mark(mark):
    return mark[6]


def telling_in_row(facts, part, row):
    """A dict from kinds to lists with the telling mark, or None, for each place of the row."""
    seats = seats_in(row)
    telling = {}
    # By rising keys, so that each mark goes over those of lesser ones.
    for mark in sorted([mark for mark in facts["marks"] if mark[0] == part], key=key_of_mark):
        over = telling.setdefault(mark[3], [None] * len(row))
        between = stretch(seats, mark[1], mark[2])
        over[between[0]:between[1]] = [mark] * (between[1] - between[0])
    return telling


def told_of_signs(facts, part, place):
    """A dict from the living signs to lists of (kind, what stands at that place of the telling mark)."""
    row = row_of(facts, part)
    seats = seats_in(row)
    telling = telling_in_row(facts, part, row)
    told = {}
    for name in living(facts, part):
        marks = [telling[kind][seats[name]] for kind in sorted(telling)]
        told[name] = [(mark[3], mark[place]) for mark in marks if mark is not None and mark[4] is not None]
    return told


def telling_marks(facts, part):
    return told_of_signs(facts, part, 5)


def marks_of(facts, part):
    return told_of_signs(facts, part, 4)


def key_of_note(note):
    return note[5]


def notes_of(facts, part):
    seats = seats_in(row_of(facts, part))
    alive = living(facts, part)
    told = []
    for note in sorted([note for note in facts["notes"] if note[0] == part], key=key_of_note):
        between = stretch(seats, note[1], note[2])
        under = [name for name in alive if between[0] <= seats[name] < between[1]]
        told.append((note[4], note[3], under[0] if len(under) > 0 else None))
    return told
