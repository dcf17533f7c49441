"""Where parts stand and which are shown: [2], [17], [18]."""

import copy
import random
import unittest

import plain
from making import some_deeds, told
from pagefolk.facts import facts_of
from pagefolk.parts import inner_parts, places_told, shown_parts, stands_in
from pagefolk.sets import Folk

ROLL = ["ann", "bob"]
MAIN = ("", 0)
NO_FACTS = dict([(key, []) for key in "births places cuts signs marks notes lines cells leaves".split()])


def p(number):
    return ("ann", number)


def facts(text):
    return facts_of(Folk(ROLL, told(ROLL, text)))


def of_places(places, cuts=()):
    """Facts that no set brings: places as tuples (part, outer, key)."""
    return dict(NO_FACTS, places=[(part, outer, ("bob", n + 1), key) for n, (part, outer, key) in enumerate(places)],
                cuts=[(part, ("bob", 1000)) for part in cuts])


class Places(unittest.TestCase):
    def test_no_parts(self):
        self.assertEqual(places_told(NO_FACTS), {})
        self.assertEqual(stands_in(NO_FACTS), {})
        self.assertEqual(shown_parts(NO_FACTS), [MAIN])
        self.assertEqual(inner_parts(NO_FACTS, MAIN), [])
        self.assertEqual(inner_parts(NO_FACTS, p(1)), [])

    def test_parts_and_moves(self):
        some = facts("ann part .\nann part ann.1\nann part .\nann move ann.3 ann.2\nann move ann.2 .")
        self.assertEqual(places_told(some), {p(1): (MAIN, p(1)), p(2): (MAIN, p(5)), p(3): (p(2), p(4))})
        self.assertEqual(stands_in(some), {p(1): MAIN, p(2): MAIN, p(3): p(2)})
        self.assertEqual(shown_parts(some), [MAIN, p(1), p(2), p(3)])
        self.assertEqual(inner_parts(some, MAIN), [p(1), p(2)])
        self.assertEqual(inner_parts(some, p(2)), [p(3)])
        self.assertEqual(inner_parts(some, p(1)), [])

    def test_inner_parts_by_the_keys_of_their_places(self):
        some = facts("ann part .\nann part .\nann part .\nann move ann.1 .\nann move ann.3 .")
        self.assertEqual(inner_parts(some, MAIN), [p(2), p(1), p(3)])

    def test_the_greatest_key_tells_whatever_the_order(self):
        places = [(p(1), MAIN, (1, 0)), (p(2), MAIN, (2, 0)), (p(1), p(2), (9, 0)), (p(1), MAIN, (3, 0))]
        for turn in range(10):
            some = of_places(random.Random(turn).sample(places, len(places)))
            self.assertEqual(stands_in(some), {p(1): p(2), p(2): MAIN})

    def test_moves_taken_back(self):
        begin = "ann part .\nann part .\nann move ann.1 ann.2"
        self.assertEqual(stands_in(facts(begin + "\nann back 3")), {p(1): MAIN, p(2): MAIN})
        self.assertEqual(stands_in(facts(begin + "\nann back 3\nann again 3")), {p(1): p(2), p(2): MAIN})

    def test_into_itself(self):
        some = facts("ann part .\nann part ann.1\nann move ann.2 ann.2\nann put ann.2 - a")
        self.assertEqual(places_told(some)[p(2)], (p(2), p(3)))
        self.assertEqual(stands_in(some), {p(1): MAIN, p(2): MAIN})
        self.assertEqual(inner_parts(some, MAIN), [p(1), p(2)])


class Rounds(unittest.TestCase):
    def test_of_two(self):
        some = facts("ann part .\nann part .\nann move ann.1 ann.2\nann move ann.2 ann.1")
        self.assertEqual(places_told(some), {p(1): (p(2), p(3)), p(2): (p(1), p(4))})
        self.assertEqual(stands_in(some), {p(1): p(2), p(2): MAIN})
        self.assertEqual(shown_parts(some), [MAIN, p(1), p(2)])
        self.assertEqual(inner_parts(some, p(1)), [])

    def test_told_apart(self):
        some = facts("ann part .\nann part .\nann leave . bob write yes\nbob hears ann\nbob move ann.1 ann.2\n"
                     "ann move ann.2 ann.1")
        self.assertEqual(stands_in(some), {p(1): MAIN, p(2): p(1)})

    def test_of_many_and_several_with_parts_that_lead_into_them(self):
        places = [(p(n), p(n % 5 + 1), (n * 7 % 5, 0)) for n in range(1, 6)]
        places += [(p(11), p(12), (50, 0)), (p(12), p(11), (40, 0)), (p(21), p(3), (99, 0)), (p(22), p(21), (98, 1)),
                   (p(31), p(12), (97, 0)), (p(41), p(41), (0, 1))]
        # Of the five the greatest key, (4, 0), is that of ann 2.
        wanted = {p(1): p(2), p(2): MAIN, p(3): p(4), p(4): p(5), p(5): p(1), p(11): MAIN, p(12): p(11), p(21): p(3),
                  p(22): p(21), p(31): p(12), p(41): MAIN}
        for turn in range(30):
            some = of_places(random.Random(turn).sample(places, len(places)))
            self.assertEqual(stands_in(some), wanted)
            self.assertEqual(shown_parts(some), sorted([MAIN] + list(wanted)))

    def test_two_thousand_parts_one_in_the_other_and_round(self):
        chain = [(p(n), p(n - 1) if n > 1 else MAIN, (n, 0)) for n in range(1, 2001)]
        self.assertEqual(shown_parts(of_places(chain[::-1])), sorted([MAIN] + [p(n) for n in range(1, 2001)]))
        turned = of_places([(p(1), p(2000), (5000, 0))] + chain[1:])
        self.assertEqual(stands_in(turned)[p(1)], MAIN)
        self.assertEqual(stands_in(turned)[p(2000)], p(1999))
        self.assertEqual(len(shown_parts(turned)), 2001)


class Nowhere(unittest.TestCase):
    def test_parts_whose_outer_one_does_not_count(self):
        some = facts("ann part .\nann part ann.1\nann part ann.2\nann part .\nann back 1")
        self.assertEqual(places_told(some), {p(2): (p(1), p(2)), p(3): (p(2), p(3)), p(4): (MAIN, p(4))})
        self.assertEqual(stands_in(some), {p(2): None, p(3): None, p(4): MAIN})
        self.assertEqual(shown_parts(some), [MAIN, p(4)])
        for part in (p(1), p(2), p(3)):
            self.assertEqual(inner_parts(some, part), [])

    def test_moved_out_of_it(self):
        some = facts("ann part .\nann part ann.1\nann part ann.2\nann move ann.3 .\nann back 1")
        self.assertEqual(stands_in(some), {p(2): None, p(3): MAIN})

    def test_facts_that_no_set_brings(self):
        some = of_places([(p(2), p(1), (5, 0)), (p(3), p(2), (4, 0)), (p(4), p(3), (3, 0)), (p(4), MAIN, (9, 0))])
        self.assertEqual(stands_in(some), {p(2): None, p(3): None, p(4): MAIN})


class Cuts(unittest.TestCase):
    def test_cuts_of_parts_and_of_outer_ones(self):
        text = "ann part .\nann part ann.1\nann part ann.2\nann part .\nann cut ann.2"
        some = facts(text)
        self.assertEqual(stands_in(some), {p(1): MAIN, p(2): p(1), p(3): p(2), p(4): MAIN})
        self.assertEqual(shown_parts(some), [MAIN, p(1), p(4)])
        self.assertEqual(inner_parts(some, p(1)), [])
        self.assertEqual(inner_parts(some, p(2)), [])
        self.assertEqual(shown_parts(facts(text + "\nann back 5")), [MAIN, p(1), p(2), p(3), p(4)])

    def test_moved_out_of_a_cut_one(self):
        some = facts("ann part .\nann part ann.1\nann cut ann.1\nann move ann.2 .")
        self.assertEqual(shown_parts(some), [MAIN, p(2)])

    def test_a_cut_of_a_part_of_a_round(self):
        some = facts("ann part .\nann part .\nann move ann.1 ann.2\nann move ann.2 ann.1\nann cut ann.2")
        self.assertEqual(shown_parts(some), [MAIN])
        other = facts("ann part .\nann part .\nann move ann.1 ann.2\nann move ann.2 ann.1\nann cut ann.1")
        self.assertEqual(shown_parts(other), [MAIN, p(2)])

    def test_of_facts_alone(self):
        some = of_places([(p(1), MAIN, (1, 0)), (p(2), p(1), (2, 0))], cuts=[p(1), p(9)])
        self.assertEqual(shown_parts(some), [MAIN])
        self.assertEqual(stands_in(some), {p(1): MAIN, p(2): p(1)})


class Whole(unittest.TestCase):
    def hold(self, some, parts):
        told_by_words = plain.places_told(some)
        self.assertEqual(places_told(some), dict([(part, told_by_words[part][1:3]) for part in told_by_words]))
        self.assertEqual(stands_in(some), plain.stands_in(some))
        self.assertEqual(shown_parts(some), [part for part in sorted(parts) if plain.is_shown(some, part)])
        for part in parts:
            self.assertEqual(inner_parts(some, part), plain.inner_parts(some, part))

    def test_sets(self):
        kinds = ["part"] * 3 + ["move"] * 5 + ["cut", "back", "again"]
        for turn in range(100):
            deeds = some_deeds(random.Random(turn), ROLL, 30, kinds)
            self.hold(facts_of(Folk(ROLL, deeds)), [MAIN] + [deed[:2] for deed in deeds if deed[4][0] == "part"])

    def test_any_facts(self):
        for turn in range(300):
            chance = random.Random(turn)
            parts = [p(n) for n in range(1, chance.randint(2, 9))]
            keys = chance.sample([(n, m) for n in range(9) for m in range(3)], chance.randint(0, 12))
            some = of_places([(chance.choice(parts), chance.choice(parts + [MAIN]), key) for key in keys],
                             chance.sample(parts, chance.choice((0, 0, 1))))
            kept = copy.deepcopy(some)
            self.hold(some, [MAIN] + parts)
            self.assertEqual(some, kept)


if __name__ == "__main__":
    unittest.main()
