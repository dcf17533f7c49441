"""Changes of least cost from one list of texts to another, and prices that show that none is cheaper."""


def price_row(text, other, below, last):
    """The prices at one text of the first list, by those at the next one; last is the price at the other's end."""
    row = [last]
    for place in range(len(other) - 1, -1, -1):
        if text == other[place]:
            row.append(below[place + 1])
        else:
            row.append(1 + min(below[place], row[-1]))
    return row[::-1]


def prices(one, other):
    """At each place the least cost from there on."""
    rows = [list(range(len(other), -1, -1))]
    for place in range(len(one) - 1, -1, -1):
        rows.append(price_row(one[place], other, rows[-1], len(one) - place))
    return rows[::-1]


def differ_little(some, others):
    return all([-1 <= price - other <= 1 for price, other in zip(some, others)])


def is_square(some, many, of_each):
    return len(some) == many and all([len(row) == of_each for row in some])


def are_prices(one, other, some):
    if not is_square(some, len(one) + 1, len(other) + 1) or some[-1][-1] != 0:
        return False
    for row in some:
        if not differ_little(row[:-1], row[1:]):
            return False
    for text, row, below in zip(one, some[:-1], some[1:]):
        if not differ_little(row, below):
            return False
        kept = [row[place] <= below[place + 1] for place in range(len(other)) if other[place] == text]
        if not all(kept):
            return False
    return True


def alike_ahead(one, other):
    """How many texts are alike at the begin of both lists."""
    many = 0
    while many < min(len(one), len(other)) and one[many] == other[many]:
        many += 1
    return many


def steps_between(one, other):
    """A list of the steps of a least change, one text each: keep, out, or put."""
    table = prices(one, other)
    steps = []
    at = 0
    its = 0
    while at < len(one) or its < len(other):
        if at < len(one) and its < len(other) and one[at] == other[its]:
            steps.append(("keep", ""))
            at += 1
            its += 1
        elif at < len(one) and table[at + 1][its] < table[at][its]:
            steps.append(("out", ""))
            at += 1
        else:
            steps.append(("put", other[its]))
            its += 1
    return steps


def gathered(outs, puts):
    """The outs and puts between two texts that are kept, an out ahead of a put."""
    change = [("out", outs)] if outs > 0 else []
    return change + ([("put", puts)] if len(puts) > 0 else [])


def joined(steps):
    """The change of single steps: as few tuples as there can be."""
    change = []
    kept = 0
    outs = 0
    puts = []
    for kind, text in steps:
        if kind == "keep" and outs + len(puts) > 0:
            change.extend(gathered(outs, puts))
            outs = 0
            puts = []
        if kind != "keep" and kept > 0:
            change.append(("keep", kept))
            kept = 0
        kept += 1 if kind == "keep" else 0
        outs += 1 if kind == "out" else 0
        if kind == "put":
            puts.append(text)
    return change + ([("keep", kept)] if kept > 0 else gathered(outs, puts))


def least_change(one, other):
    # What is alike at both ends is kept by some change of least cost: prices are wanted only between.
    ahead = alike_ahead(one, other)
    behind = alike_ahead(one[ahead:][::-1], other[ahead:][::-1])
    steps = steps_between(one[ahead:len(one) - behind], other[ahead:len(other) - behind])
    return joined([("keep", "")] * ahead + steps + [("keep", "")] * behind)


def gone_along(change, one):
    made = []
    at = 0
    for kind, told in change:
        if kind == "put":
            made.extend(told)
            continue
        if kind == "keep":
            made.extend(one[at:at + told])
        at += told
    return made if at == len(one) else None


def cost_of(change):
    return sum([len(told) if kind == "put" else told for kind, told in change if kind != "keep"])
