"""The document as text."""


def stretches_of(row):
    """Tuples (kind, first, value, last) of the longest stretches of one value of one kind, sorted."""
    found = []
    running = {}
    for place, sign in enumerate(row):
        still = {}
        for kind, value in sign[2]:
            first = running[(kind, value)][1] if (kind, value) in running else place
            still[(kind, value)] = (kind, first, value, place)
        found.extend([told for key, told in running.items() if key not in still])
        running = still
    return sorted(found + list(running.values()))


def shown_mark(told):
    kind = told[0]
    value = told[2]
    return f"mark {kind} {value} " + str(told[1]) + " " + str(told[3])


def shown_note(places, note):
    return "note " + note[1] + " " + (str(places[note[2]]) if note[2] in places else "loose")


def shown_cells(words):
    return " ".join(["cells"] + [word if word != "" else "-" for word in words])


def rows_of_entry(entry):
    head = "part " + (entry[0] if entry[0] != "" else ".")
    if entry[2] is None:
        return [head, "closed"]
    row = entry[2]
    text = ["text " + "".join([sign[1] for sign in row])] if len(row) > 0 else []
    marks = [shown_mark(told) for told in stretches_of(row)]
    places = dict([(sign[0], place) for place, sign in enumerate(row)])
    notes = [shown_note(places, note) for note in entry[3]]
    table = entry[4]
    cells = [shown_cells(words) for words in table[2]] if len(table[1]) > 0 else []
    return [head] + text + marks + notes + cells


def shown(entries):
    rows = []
    for entry in entries:
        rows.extend(rows_of_entry(entry))
    return "\n".join(rows)
