"""The desk: a hand for each of a roll, told what to do in rows of words."""

from pagefolk.deeds import MOST_NUMBER, is_branch, is_name, is_number, is_part, is_sign, is_sign_name, is_what
from pagefolk.errors import NoDeed, NoRow, NoThing, Poured
from pagefolk.hands import Hand
from pagefolk.letters import read_branch, read_name, read_number, read_part
from pagefolk.letters import read_plain, read_plain_or_none, read_sign_name, read_what
from pagefolk.looker import Looker
from pagefolk.papers import paper_for
from pagefolk.sets import Folk
from pagefolk.shows import shown


def checked(thing, is_right):
    """The thing, or NoDeed where it isn't right."""
    if not is_right:
        raise NoDeed(f"{thing!r} is of another form")
    return thing


# The defs that take a roll and a word tell what the word stands for in a row,
# or NoDeed; those that take all words behind the verb tell a list of things.

def part_told(roll, word):
    part = read_part(word)
    return checked(part, is_part(roll, part))


def number_told(roll, word):
    number = read_number(word)
    return checked(number, is_number(number, 0))


def text_told(roll, word):
    return checked(word, all([is_sign(sign) for sign in word]))


def word_told(roll, word):
    return read_plain(word)


def word_or_none_told(roll, word):
    return read_plain_or_none(word)


def branch_told(roll, word):
    branch = read_branch(word)
    return checked(branch, is_branch(roll, branch))


def hand_told(roll, word):
    return checked(word, word in roll)


def name_told(roll, word):
    name = read_name(word)
    return checked(name, is_name(roll, name))


def sign_told(roll, word):
    sign = read_sign_name(word)
    return checked(sign, is_sign_name(roll, sign))


FORMS = {
    "put": (part_told, number_told, text_told),
    "out": (part_told, number_told, number_told),
    "write": (part_told, text_told),
    "mark": (part_told, number_told, number_told, word_told, word_or_none_told),
    "note": (part_told, number_told, number_told, word_told),
    "works": (branch_told,),
    "hears": (hand_told, number_told),
    "shows": (),
    "pours": (),
    "begins": (hand_told, name_told),
    "paper": (sign_told,),
}


def what_told(roll, words):
    """What a deed does; whether the number of a back or again is a lesser one its hand looks at."""
    what = read_what(words)
    return checked(what, is_what(roll, MOST_NUMBER + 1, what))


def things_told(roll, verb, words):
    """What the words behind the verb stand for, as a list, or NoDeed where they are none such."""
    if verb == "does":
        return [what_told(roll, words)]
    forms = FORMS[verb]
    if len(words) != len(forms) and (verb, len(words)) != ("hears", 1):
        raise NoDeed(f"{verb} is told with too few words or too many")
    return [form(roll, word) for form, word in zip(forms, words)]


def words_of_row(row):
    """The words, the text at the end of a put or a write one of them, blanks and all."""
    words = row.split(" ")
    lengths = {"put": 5, "write": 4}
    if len(words) < 2 or words[1] not in lengths:
        return words
    return row.split(" ", lengths[words[1]] - 1)


def read_row(roll, row):
    """A tuple (hand, verb, things), or NoRow."""
    if not isinstance(row, str):
        raise NoRow("a row is a text")
    words = words_of_row(row)
    if len(words) < 2 or words[0] not in roll or (words[1] not in FORMS and words[1] != "does"):
        raise NoRow(f"{row!r} begins with no hand, or tells it nothing")
    try:
        return (words[0], words[1], things_told(roll, words[1], words[2:]))
    except NoDeed:
        raise NoRow(f"{row!r} is none of the desk's rows") from None


def numbers_of(deeds):
    return " ".join([str(deed[1]) for deed in deeds]) if len(deeds) > 0 else "none"


class Desk:
    """The hands of a roll, by their words."""

    def __init__(self, roll):
        self.hands = list(roll)
        self.seated = dict([(word, Hand(roll, word)) for word in roll])

    def say(self, row):
        told = read_row(self.hands, row)
        hand = self.seated[told[0]]
        things = told[2]
        if told[1] == "begins":
            return self.begins(told[0], things[0], things[1])
        if told[1] == "hears":
            return self.hears(hand, things)
        if told[1] in ("shows", "pours", "paper"):
            return self.asked(hand, told[1], things)
        return self.bidden(hand, told[1], things)

    def bidden(self, hand, verb, things):
        """What a hand is told to do."""
        if verb == "put":
            return numbers_of(hand.put(things[0], things[1], things[2]))
        if verb == "out":
            return numbers_of(hand.out(things[0], things[1], things[2]))
        if verb == "write":
            return numbers_of(hand.write(things[0], things[1]))
        if verb == "mark":
            return numbers_of([hand.mark(things[0], things[1], things[2], things[3], things[4])])
        if verb == "note":
            return numbers_of([hand.note(things[0], things[1], things[2], things[3])])
        if verb == "does":
            return numbers_of([hand.does(things[0])])
        hand.works(things[0])
        return "ok"

    def asked(self, hand, verb, things):
        if verb == "shows":
            return shown(hand.view())
        if verb == "paper":
            return self.paper(hand, things[0])
        counts = hand.greatest()
        return "none" if counts is None else numbers_of([hand.does(("pour", counts))])

    def hears(self, hand, things):
        deeds = self.seated[things[0]].lacking(hand.counts())
        if len(things) > 1:
            deeds = deeds[:things[1]][::-1]
        return str(sum([len(hand.hear(deed)) for deed in deeds]))

    def begins(self, word, other_word, pour):
        other = self.seated[other_word]
        seat = self.hands.index(word)
        keepsake = other.keepsake_now(pour)
        if other.counts()[seat] < self.seated[word].counts()[seat]:
            raise NoThing(f"{other_word} lacks deeds of {word}")
        anew = Hand(self.hands, word, keepsake)
        for deed in other.lacking(keepsake["counts"]):
            anew.hear(deed)
        self.seated[word] = anew
        return "ok"

    def paper(self, hand, sign):
        if hand.began_anew:
            raise Poured("what the papers rest on is poured")
        folk = Folk(self.hands, hand.deeds())
        if not Looker(folk).is_put(sign):
            raise NoThing(f"no good deed put {sign!r}")
        return paper_for(folk, sign)[0]
