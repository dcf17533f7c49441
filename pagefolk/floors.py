"""What lies under the deeds of a set: nothing, or what was poured into a keepsake."""

FACTS = ("births", "places", "cuts", "signs", "marks", "notes", "lines", "cells", "leaves")


def no_facts():
    return dict([(key, []) for key in FACTS])


class Floor:
    """Counts of the poured deeds, their greatest height, their facts and the words on their branches."""

    def __init__(self, counts, tall, facts, words):
        self.poured = counts
        self.tall = tall
        self.begun = facts
        self.said = words
        cut = dict([(fact[0], True) for fact in facts["cuts"]])
        self.counting_parts = dict([(fact[0], True) for fact in facts["places"]])
        self.parts = dict([(part, True) for part in self.counting_parts if part not in cut])
        self.signs = dict([(fact[1], fact[0]) for fact in facts["signs"]])
        self.lines = dict([(fact[2], ("line", fact[0], fact[1])) for fact in facts["lines"]])
        self.leaves = list(facts["leaves"])


def bare_floor(roll):
    return Floor(tuple([0] * len(roll)), 0, no_facts(), {})
