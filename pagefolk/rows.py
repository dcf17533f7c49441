"""Rows of places: lists of tuples (name, behind, key)."""


def key_of_place(place):
    return place[2]


def followers_of(places):
    """A dict from a name, or None, to the names behind it, the greatest key last."""
    followers = {}
    for place in sorted(places, key=key_of_place):
        followers.setdefault(place[1], []).append(place[0])
    return followers


def ordered(places):
    followers = followers_of(places)
    row = []
    # What is still to come, the next one last; a list, as a row may be thousands of places deep.
    to_come = list(followers.get(None, []))
    while len(to_come) > 0:
        name = to_come.pop()
        row.append(name)
        to_come.extend(followers.get(name, []))
    return row


def line_of(places, name):
    behind_of = dict([(place[0], place[1]) for place in places])
    line = []
    while name is not None:
        line.append(name)
        name = behind_of[name]
    return line


def is_ahead_by_lines(keys, line, other):
    """Whether the first one of the line is ahead of the first one of the other; keys is a dict from names."""
    for name, its in zip(line[::-1], other[::-1]):
        if name != its:
            return keys[name] > keys[its]
    return len(line) < len(other)


def is_ahead(places, one, other):
    keys = dict([(place[0], place[2]) for place in places])
    return is_ahead_by_lines(keys, line_of(places, one), line_of(places, other))
