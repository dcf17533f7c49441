"""Words, signs and deeds: what is one, of things of any kind.

Whatever is asked of may be anything at all, so each def looks at the kind of
a thing before it compares it: True equals 1, and other things may equal texts.
"""

MAIN = ("", 0)
MOST_NUMBER = 1000000
MOST_LETTERS = 8
MOST_SIGNS = 12
WHERES = ("ahead", "behind")
WAYS = ("row", "column")
LEAVES = ("read", "note", "write", "give")


def is_word(thing):
    if not isinstance(thing, str) or not 1 <= len(thing) <= MOST_LETTERS:
        return False
    return all(["a" <= letter <= "z" for letter in thing])


def is_tuple_of(thing, length):
    return isinstance(thing, tuple) and len(thing) == length


def is_number(thing, least):
    if not isinstance(thing, int) or isinstance(thing, bool):
        return False
    return least <= thing <= MOST_NUMBER


def is_one_of(thing, texts):
    return isinstance(thing, str) and thing in texts


def is_main(thing):
    return is_tuple_of(thing, 2) and is_one_of(thing[0], ("",)) and is_number(thing[1], 0) and thing[1] == 0


def is_any_name(thing):
    """Whether it is a deed's name by its form, of whatever roll."""
    return is_tuple_of(thing, 2) and is_word(thing[0]) and is_number(thing[1], 1)


def is_sign(thing):
    if isinstance(thing, str):
        return len(thing) == 1 and (is_word(thing) or thing in " .,")
    if not is_tuple_of(thing, 2):
        return False
    if is_one_of(thing[0], ("picture",)):
        return is_word(thing[1])
    return is_one_of(thing[0], ("refer",)) and (is_main(thing[1]) or is_any_name(thing[1]))


def name_of(deed):
    return (deed[0], deed[1])


# The defs from here to FORMS all take a roll and a thing, those that need no
# roll too: so FORMS can list them by the parts of what a deed does.

def is_hand(roll, thing):
    return is_word(thing) and thing in roll


def is_name(roll, thing):
    return is_any_name(thing) and thing[0] in roll


def is_part(roll, thing):
    return is_main(thing) or is_name(roll, thing)


def is_line_or_none(roll, thing):
    return thing is None or is_name(roll, thing)


def is_sign_name(roll, thing):
    return is_tuple_of(thing, 3) and is_name(roll, thing[:2]) and is_number(thing[2], 0)


def is_sign_name_or_none(roll, thing):
    return thing is None or is_sign_name(roll, thing)


def is_side(roll, thing):
    return is_tuple_of(thing, 2) and is_sign_name(roll, thing[0]) and is_one_of(thing[1], WHERES)


def is_sign_of_roll(roll, thing):
    if not is_sign(thing):
        return False
    return isinstance(thing, str) or thing[0] == "picture" or is_part(roll, thing[1])


def is_signs(roll, thing):
    if not isinstance(thing, tuple) or not 1 <= len(thing) <= MOST_SIGNS:
        return False
    return all([is_sign_of_roll(roll, sign) for sign in thing])


def is_sign_names(roll, thing):
    if not isinstance(thing, tuple) or not 1 <= len(thing) <= MOST_SIGNS:
        return False
    if not all([is_sign_name(roll, name) for name in thing]):
        return False
    return len(set(thing)) == len(thing)


def is_plain_word(roll, thing):
    return is_word(thing)


def is_word_or_none(roll, thing):
    return thing is None or is_word(thing)


def is_word_or_empty(roll, thing):
    return is_word(thing) or is_one_of(thing, ("",))


def is_way(roll, thing):
    return is_one_of(thing, WAYS)


def is_leave(roll, thing):
    return is_one_of(thing, LEAVES)


def is_truth(roll, thing):
    return isinstance(thing, bool)


def is_deed_number(roll, thing):
    return is_number(thing, 1)


def is_counts(roll, thing):
    return is_tuple_of(thing, len(roll)) and all([is_number(count, 0) for count in thing])


FORMS = {
    "nothing": (),
    "part": (is_part,),
    "move": (is_name, is_part),
    "cut": (is_name,),
    "put": (is_part, is_sign_name_or_none, is_signs),
    "out": (is_part, is_sign_names),
    "mark": (is_part, is_side, is_side, is_plain_word, is_word_or_none),
    "note": (is_part, is_side, is_side, is_plain_word),
    "line": (is_part, is_way, is_line_or_none),
    "strike": (is_part, is_name),
    "cell": (is_part, is_name, is_name, is_word_or_empty),
    "leave": (is_part, is_hand, is_leave, is_truth),
    "back": (is_deed_number,),
    "again": (is_deed_number,),
    "bring": (is_plain_word,),
    "drop": (is_plain_word,),
    "pour": (is_counts,),
}


def is_what(roll, number, thing):
    """Whether it is what a deed of that number can do."""
    if not isinstance(thing, tuple) or len(thing) == 0:
        return False
    if not isinstance(thing[0], str) or thing[0] not in FORMS:
        return False
    forms = FORMS[thing[0]]
    if len(thing) != len(forms) + 1:
        return False
    if not all([form(roll, part) for form, part in zip(forms, thing[1:])]):
        return False
    return thing[0] not in ("back", "again") or thing[1] < number


def is_branch(roll, thing):
    return thing is None or (is_tuple_of(thing, 2) and is_hand(roll, thing[0]) and is_word(thing[1]))


def is_deed(roll, thing):
    if not is_tuple_of(thing, 5) or not is_name(roll, thing[:2]):
        return False
    if not is_counts(roll, thing[2]) or thing[2][roll.index(thing[0])] != thing[1] - 1:
        return False
    return is_branch(roll, thing[3]) and is_what(roll, thing[1], thing[4])
