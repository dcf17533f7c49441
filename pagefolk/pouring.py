"""Which counts may be poured, by the three rows of what a past tells; the leave for it is asked elsewhere."""

from pagefolk.deeds import name_of
from pagefolk.grounds import good_words


def are_within(counts, others):
    return all([count <= other for count, other in zip(counts, others)])


def lesser_of(counts, others):
    return tuple([min(pair) for pair in zip(counts, others)])


def is_within(book, name, counts):
    return name[1] <= counts[book.seats[name[0]]]


def without_it(book, counts, name):
    """The counts, so cut down that the named deed is beyond them."""
    seat = book.seats[name[0]]
    return counts[:seat] + (min(counts[seat], name[1] - 1),) + counts[seat + 1:]


def known_by_all(book, hand, heard):
    """The greatest counts of which each hand knew in a past that all know them, the pourer as it pours."""
    counts = book.known_within(heard)
    for other, many in zip(book.hands, heard):
        if other != hand:
            # A hand that said nothing beyond the floor had heard of nothing beyond it.
            past = book.told[(other, many)][2] if (other, many) in book.told else (0,) * len(book.hands)
            counts = lesser_of(counts, book.known_within(past))
    return counts


def words_on_branches(book, deeds):
    """A dict from branches to the names of the good words about them."""
    words = good_words(deeds, book.good_by_name, ("bring", "drop"))
    return dict([((word[0], word[4][1]), name_of(word)) for word in words])


def is_settled(book, words, branch, counts):
    """Whether it is the main, or a branch about which there is a good word within the counts."""
    if branch is None or branch in book.floor.said:
        return True
    return branch in words and is_within(book, words[branch], counts)


def lowered_by(book, words, deed, counts):
    """The counts, cut down by what the deed speaks against in them, within them or beyond."""
    name = name_of(deed)
    if is_within(book, name, counts):
        whole = are_within(deed[2], counts)
        return counts if whole and is_settled(book, words, deed[3], counts) else without_it(book, counts, name)
    if deed[4][0] in ("back", "again") and book.good_by_name[name]:
        counts = without_it(book, counts, (deed[0], deed[4][1]))
    return lesser_of(counts, deed[2])


def lowered(book, heard, counts):
    """The counts, cut down by all deeds of the past; as they were where nothing speaks against them.

    What a deed speaks against in some counts it does in all lesser ones, too: so
    no good counts that lie within these are lost.
    """
    deeds = book.deeds_within(heard)
    words = words_on_branches(book, deeds)
    for deed in deeds:
        counts = lowered_by(book, words, deed, counts)
    return counts


def are_pourable(book, hand, heard, counts):
    """Whether a pour of the hand with that past would be good by the three rows."""
    if sum(counts) == 0 or not are_within(book.floor.poured, counts):
        return False
    return are_within(counts, known_by_all(book, hand, heard)) and lowered(book, heard, counts) == counts


def greatest_beyond(book, hand, heard):
    """The greatest counts that are so, where they go beyond the floor, else None."""
    counts = known_by_all(book, hand, heard)
    while lowered(book, heard, counts) != counts:
        counts = lowered(book, heard, counts)
    floor = book.floor.poured
    return counts if are_within(floor, counts) and counts != floor else None
