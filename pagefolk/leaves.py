"""Birth chains, and which hand has the leave for what."""


def birth_chain(births, part):
    outer_of = dict(births)
    chain = [part]
    # No chain is longer than all births: facts that no set brings may come round.
    while chain[-1] in outer_of and len(chain) <= len(outer_of):
        chain.append(outer_of[chain[-1]])
    return chain


def told_leaves(leaves, hand, to):
    """A dict from the parts about which a leave is told, for this hand and word, to whether the last one says yes."""
    told = {}
    for leave in sorted(leaves, key=key_of_leave):
        if leave[1] == hand and leave[2] == to:
            told[leave[0]] = leave[3]
    return told


def key_of_leave(leave):
    return leave[4]


def is_let(leaves, chain, hand, to):
    told = told_leaves(leaves, hand, to)
    for part in chain:
        if part in told:
            return told[part]
    return False


def has_leave(roll, births, leaves, hand, part, to):
    if hand == roll[0]:
        return True
    chain = birth_chain(births, part)
    if is_let(leaves, chain, hand, to):
        return True
    return to == "note" and is_let(leaves, chain, hand, "write")
