"""Where parts stand, and which are shown."""

from pagefolk.deeds import MAIN


def telling_places(facts):
    """A dict from parts to the one of their tuples of places that has the greatest key."""
    telling = {}
    for place in facts["places"]:
        part = place[0]
        if part not in telling or telling[part][3] < place[3]:
            telling[part] = place
    return telling


def places_told(facts):
    return dict([(part, (place[1], place[2])) for part, place in telling_places(facts).items()])


def way_out(outer_of, part, ended):
    """The parts from this one outward; the last one is ended, or has no place, or comes again."""
    way = [part]
    on_way = {part: True}
    while way[-1] in outer_of and way[-1] not in ended:
        outer = outer_of[way[-1]]
        way.append(outer)
        if outer in on_way:
            return way
        on_way[outer] = True
    return way


def greatest_place(telling, parts):
    """The one of the parts whose place has the greatest key."""
    return max(parts, key=lambda one: telling[one][3])


def turned_in(telling):
    """A dict of the parts that stand in the main part instead, one for each round."""
    outer_of = dict([(part, place[1]) for part, place in telling.items()])
    turned = {}
    ended = {}
    for part in telling:
        way = way_out(outer_of, part, ended)
        if way.count(way[-1]) > 1:
            turned[greatest_place(telling, way[way.index(way[-1]):-1])] = True
        for one in way:
            ended[one] = True
    return turned


def stood_in(telling):
    """A dict from the parts that have a place to that in which each stands, None where its outer one has none."""
    turned = turned_in(telling)
    stands = {}
    for part, place in telling.items():
        stands[part] = MAIN if part in turned else place[1]
    return stands


def reaching_main(outer_of):
    """A dict from the parts to whether the way from each outward comes to the main part; there are no rounds."""
    reaching = {MAIN: True}
    for part in outer_of:
        way = way_out(outer_of, part, reaching)
        comes = reaching.get(way[-1], False)
        for one in way:
            reaching[one] = comes
    return reaching


def stands_in(facts):
    outer_of = stood_in(telling_places(facts))
    reaching = reaching_main(outer_of)
    return dict([(part, outer if reaching[part] else None) for part, outer in outer_of.items()])


def shown_among(facts, stands):
    """A dict of the parts that are shown."""
    cut = dict([(fact[0], True) for fact in facts["cuts"]])
    left = dict([(part, outer) for part, outer in stands.items() if part not in cut])
    reaching = reaching_main(left)
    return dict([(part, True) for part, comes in reaching.items() if comes])


def shown_parts(facts):
    return sorted(shown_among(facts, stands_in(facts)))


def all_inner_parts(facts):
    """A dict from the parts that have inner parts to lists of these."""
    telling = telling_places(facts)
    stands = stands_in(facts)
    shown = shown_among(facts, stands)
    inner = {}
    for part in sorted(list(stands), key=lambda one: telling[one][3]):
        if part in shown:
            inner.setdefault(stands[part], []).append(part)
    return inner


def inner_parts(facts, part):
    return all_inner_parts(facts).get(part, [])
