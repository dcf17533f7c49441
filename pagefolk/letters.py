"""The text of a deed, written and read back."""

from pagefolk.deeds import MAIN, is_deed, is_word
from pagefolk.errors import NoDeed

# As many digits as the greatest number has: a longer row of them is not made a number at all.
MOST_DIGITS = 7


def shown_name(name):
    if name[0] == "":
        return "."
    return ".".join([str(word) for word in name])


def shown_counts(counts):
    return ",".join([str(count) for count in counts])


def shown_branch(branch):
    return "-" if branch is None else ".".join(branch)


def shown_side(side):
    return shown_name(side[0]) + ("<" if side[1] == "ahead" else ">")


def shown_sign(sign):
    if isinstance(sign, str):
        return "_" if sign == " " else sign
    if sign[0] == "picture":
        return "*" + sign[1]
    return "#" + shown_name(sign[1])


def shown_text(text):
    return "!" if text == "" else text


def shown_thing(thing):
    """Any one thing of what a deed does, but signs and names: their kinds tell them apart."""
    if thing is None:
        return "-"
    if isinstance(thing, bool):
        return "yes" if thing else "no"
    if isinstance(thing, int):
        return str(thing)
    if isinstance(thing, str):
        return shown_text(thing)
    if isinstance(thing[0], int):
        return shown_counts(thing)
    return shown_side(thing) if isinstance(thing[0], tuple) else shown_name(thing)


def words_of(what):
    """The words of what a deed does."""
    if what[0] == "put":
        listed = [shown_sign(sign) for sign in what[3]]
    elif what[0] == "out":
        listed = [shown_name(name) for name in what[2]]
    else:
        return [shown_thing(thing) for thing in what]
    return [shown_thing(thing) for thing in what[:-1]] + listed


def shown_deed(deed):
    head = [deed[0], str(deed[1]), shown_counts(deed[2]), shown_branch(deed[3])]
    return " ".join(head + words_of(deed[4]))


# The defs that read take one word and tell what it stands for, or NoDeed. Of the
# roll, and of how great a number may be, is_deed is asked when all is read.

def read_number(word):
    digits = all(["0" <= sign <= "9" for sign in word])
    if not digits or not 1 <= len(word) <= MOST_DIGITS or (word[0] == "0" and word != "0"):
        raise NoDeed(f"{word!r} is no number")
    return int(word)


def read_plain(word):
    if not is_word(word):
        raise NoDeed(f"{word!r} is no word")
    return word


def read_name(word):
    told = word.split(".")
    if len(told) != 2:
        raise NoDeed(f"{word!r} is no deed's name")
    return (read_plain(told[0]), read_number(told[1]))


def read_part(word):
    return MAIN if word == "." else read_name(word)


def read_name_or_none(word):
    return None if word == "-" else read_name(word)


def read_sign_name(word):
    told = word.split(".")
    if len(told) != 3:
        raise NoDeed(f"{word!r} is no sign's name")
    return (read_plain(told[0]), read_number(told[1]), read_number(told[2]))


def read_sign_name_or_none(word):
    return None if word == "-" else read_sign_name(word)


def read_side(word):
    if not word.endswith("<") and not word.endswith(">"):
        raise NoDeed(f"{word!r} is no side")
    return (read_sign_name(word[:-1]), "ahead" if word.endswith("<") else "behind")


def read_sign(word):
    if word.startswith("*"):
        return ("picture", read_plain(word[1:]))
    if word.startswith("#"):
        return ("refer", read_part(word[1:]))
    return " " if word == "_" else word


def read_plain_or_none(word):
    return None if word == "-" else read_plain(word)


def read_plain_or_empty(word):
    return "" if word == "!" else read_plain(word)


def read_truth(word):
    if word != "yes" and word != "no":
        raise NoDeed(f"{word!r} is neither yes nor no")
    return word == "yes"


def read_counts(word):
    return tuple([read_number(count) for count in word.split(",")])


def read_branch(word):
    if word == "-":
        return None
    return tuple([read_plain(told) for told in word.split(".")])


READERS = {
    "nothing": (),
    "part": (read_part,),
    "move": (read_name, read_part),
    "cut": (read_name,),
    "put": (read_part, read_sign_name_or_none),
    "out": (read_part,),
    "mark": (read_part, read_side, read_side, read_plain, read_plain_or_none),
    "note": (read_part, read_side, read_side, read_plain),
    "line": (read_part, read_plain, read_name_or_none),
    "strike": (read_part, read_name),
    "cell": (read_part, read_name, read_name, read_plain_or_empty),
    "leave": (read_part, read_plain, read_plain, read_truth),
    "back": (read_number,),
    "again": (read_number,),
    "bring": (read_plain,),
    "drop": (read_plain,),
    "pour": (read_counts,),
}


def read_listed(kind, words):
    """The signs of a put or the names of an out, as the one thing, in a list, that they make; [] for other kinds."""
    if kind == "put":
        return [tuple([read_sign(word) for word in words])]
    if kind == "out":
        return [tuple([read_sign_name(word) for word in words])]
    if len(words) > 0:
        raise NoDeed(f"{kind} is told with too many words")
    return []


def read_what(words):
    """What the words of a deed's doing tell, or NoDeed; is_what is still to be asked of it."""
    if len(words) == 0 or words[0] not in READERS:
        raise NoDeed("there is nothing that a deed does")
    readers = READERS[words[0]]
    things = [read(word) for read, word in zip(readers, words[1:])]
    return tuple([words[0]] + things + read_listed(words[0], words[len(readers) + 1:]))


def read_deed(roll, text):
    if not isinstance(text, str):
        raise NoDeed("a deed is read from a text alone")
    words = text.split(" ")
    if len(words) < 5:
        raise NoDeed("the text has too few words")
    head = (words[0], read_number(words[1]), read_counts(words[2]), read_branch(words[3]))
    deed = head + (read_what(words[4:]),)
    if not is_deed(roll, deed):
        raise NoDeed(f"{text!r} is no deed of the roll")
    return deed
