"""Stores: [2], [3] (a), (g), [32] to [36]."""

import copy
import random
import unittest
from unittest.mock import ANY

from making import KINDS, Maker, some_deeds, some_poured, told
from pagefolk.documents import document
from pagefolk.errors import FolkError, NoDeed, NoPast, NoThing, Poured, Unlike
from pagefolk.facts import facts_of
from pagefolk.judging import Judge
from pagefolk.keepsakes import keepsake_of
from pagefolk.pours import greatest_pour
from pagefolk.sets import Folk
from pagefolk.stores import Store
from plain import Plain, name_of

ROLL = ["ann", "bob"]
THREE = ["ann", "bob", "cyd"]
MAIN = ("", 0)
SETTLED = "\n".join(["", "all hear", "ann nothing", "bob nothing", "all hear", "ann nothing", "bob nothing", "all hear", ""])


def n(number, hand="ann"):
    return (hand, number)


def a_deed(hand, number, heard, what=("nothing",)):
    return (hand, number, heard, None, what)


def heard_all(store, deeds):
    return [store.hear(deed) for deed in deeds]


class Reading:
    """[32], word by word, of deeds of which none is refused."""

    def __init__(self, roll, deeds):
        self.roll = roll
        self.plain = Plain(roll, deeds)
        self.have = []
        self.wait = []

    def can_be(self, name):
        return self.plain.past(name) <= set(self.have)

    def hear(self, deed):
        name = name_of(deed)
        if name in self.have + self.wait:
            return []
        self.wait.append(name)
        taken = []
        while any(self.can_be(one) for one in self.wait):
            one = min([one for one in self.wait if self.can_be(one)], key=self.plain.key)
            self.wait.remove(one)
            self.have.append(one)
            taken.append(one)
        return taken


class Hearing(unittest.TestCase):
    def refused(self, store, deed, error):
        before = (store.deeds(), store.counts(), store.waiting(), store.facts())
        with self.assertRaises(FolkError) as caught:
            store.hear(deed)
        self.assertIs(type(caught.exception), error)
        self.assertEqual((store.deeds(), store.counts(), store.waiting(), store.facts()), before)
        return caught.exception

    def test_of_nothing(self):
        store = Store(ROLL)
        self.assertEqual((store.deeds(), store.counts(), store.waiting(), store.lacking((0, 0))), ([], (0, 0), [], []))
        self.assertEqual(store.document(), [("", MAIN, [], [], ([], [], []))])
        self.assertEqual(store.document("bob"), [("", MAIN, None, None, None)])
        self.assertIsNone(store.greatest("ann"))

    def test_in_order_late_and_twice(self):
        one, two, three = told(ROLL, "ann put . - a\nbob hears ann\nbob nothing\nann hears bob\nann nothing")
        store = Store(ROLL)
        self.assertEqual(store.hear(three), [])
        self.assertEqual(store.waiting(), [n(2)])
        self.assertEqual(store.hear(three), [])
        self.assertEqual(store.hear(two), [])
        self.assertEqual(store.waiting(), [n(2), n(1, "bob")])
        self.assertEqual(store.counts(), (0, 0))
        self.assertEqual(store.hear(one), [n(1), n(1, "bob"), n(2)])
        self.assertEqual(store.waiting(), [])
        self.assertEqual(heard_all(store, [one, two, three]), [[], [], []])
        self.assertEqual(store.deeds(), [one, two, three])
        self.assertEqual(store.counts(), (2, 1))

    def test_the_least_key_first(self):
        deeds = [a_deed("ann", 1, (0, 0, 0)), a_deed("cyd", 1, (1, 0, 0)), a_deed("bob", 1, (1, 0, 0)), a_deed("ann", 2, (1, 0, 0)),
                 a_deed("ann", 3, (2, 0, 0)), a_deed("cyd", 2, (1, 0, 1))]
        store = Store(THREE)
        self.assertEqual(heard_all(store, deeds[1:]), [[]] * 5)
        self.assertEqual(store.hear(deeds[0]), [n(1), n(2), n(1, "bob"), n(1, "cyd"), n(3), n(2, "cyd")])

    def test_no_deeds(self):
        store = Store(ROLL)
        for thing in (None, 0, "ann 1 0,0 - nothing", (), [], {}, ANY, a_deed("cyd", 1, (0, 0)), a_deed("ann", 1, (0, 0, 0)),
                      a_deed("ann", 1, (1, 0)), a_deed("ann", 0, (0, 0)), list(a_deed("ann", 1, (0, 0))),
                      a_deed("ann", True, (0, 0)), a_deed("ann", 1, (0, 0), ("none",)), a_deed("ann", 1, (0, 0), ("back", 1))):
            self.refused(store, thing, NoDeed)

    def test_another_deed_of_a_name(self):
        store = Store(ROLL)
        store.hear(a_deed("ann", 1, (0, 0)))
        error = self.refused(store, a_deed("ann", 1, (0, 0), ("part", MAIN)), Unlike)
        self.assertEqual(error.name, n(1))
        self.refused(store, a_deed("ann", 1, (0, 5)), Unlike)
        store.hear(a_deed("bob", 3, (0, 2)))
        error = self.refused(store, a_deed("bob", 3, (1, 2)), Unlike)
        self.assertEqual(error.name, n(3, "bob"))
        self.assertEqual(store.hear(a_deed("bob", 3, (0, 2))), [])

    def test_a_deed_that_had_heard_less_than_a_deed_of_its_past(self):
        store = Store(THREE)
        heard_all(store, [a_deed("ann", 1, (0, 0, 0)), a_deed("bob", 1, (1, 0, 0))])
        self.refused(store, a_deed("cyd", 1, (0, 1, 0)), NoPast)
        self.assertEqual(store.hear(a_deed("cyd", 1, (1, 1, 0))), [n(1, "cyd")])

    def test_unlike_goes_ahead_of_no_past(self):
        store = Store(THREE)
        heard_all(store, [a_deed("ann", 1, (0, 0, 0)), a_deed("bob", 1, (1, 0, 0)), a_deed("cyd", 1, (1, 1, 0))])
        self.refused(store, a_deed("cyd", 1, (0, 1, 0)), Unlike)

    def test_one_that_waited_and_turns_out_so_is_dropped(self):
        store = Store(THREE)
        wrong = a_deed("cyd", 1, (0, 1, 0))
        self.assertEqual(heard_all(store, [wrong, a_deed("cyd", 2, (0, 1, 1))]), [[], []])
        self.assertEqual(store.hear(a_deed("bob", 1, (1, 0, 0))), [])
        self.refused(store, a_deed("cyd", 1, (1, 1, 0)), Unlike)
        self.assertEqual(store.hear(a_deed("ann", 1, (0, 0, 0))), [n(1), n(1, "bob")])
        self.assertEqual(store.waiting(), [n(2, "cyd")])
        self.refused(store, wrong, NoPast)
        self.assertEqual(store.hear(a_deed("cyd", 1, (1, 1, 0))), [n(1, "cyd")])
        self.assertEqual(store.waiting(), [])
        self.assertEqual(store.counts(), (1, 1, 1))

    def test_held_against_the_words(self):
        for turn in range(80):
            chance = random.Random(turn)
            roll = chance.choice([ROLL, THREE])
            deeds = some_deeds(chance, roll, chance.randint(3, 25))
            coming = deeds + chance.sample(deeds, 4)
            chance.shuffle(coming)
            store, reading = Store(roll), Reading(roll, deeds)
            for deed in coming:
                self.assertEqual(store.hear(deed), reading.hear(deed))
                self.assertEqual(store.waiting(), sorted(reading.wait))
                folk = Folk(roll, [reading.plain.by_name[name] for name in reading.have])
                self.assertEqual(store.deeds(), folk.deeds())
                self.assertEqual(store.counts(), folk.counts())
                hand = chance.choice([None] + roll)
                self.assertEqual(store.document(hand), document(facts_of(folk), roll, hand))
                branch = chance.choice([None, (roll[0], "try")])
                self.assertEqual(store.facts(branch), facts_of(folk, branch))
            self.assertEqual(store.facts(), reading.plain.facts())

    def test_four_hundred_deeds_from_the_last_to_the_first(self):
        deeds = Folk(THREE, some_deeds(random.Random(4), THREE, 390)).deeds()
        store, other = Store(THREE), Store(THREE)
        for deed in deeds[::-1]:
            store.hear(deed)
        for deed in deeds:
            other.hear(deed)
        self.assertEqual(store.deeds(), deeds)
        self.assertEqual(store.facts(), other.facts())

    def test_two_stores_by_turns(self):
        deeds = some_deeds(random.Random(2), ROLL, 20)
        one, other = Store(ROLL), Store(ROLL)
        for first, second in zip(deeds, deeds[::-1]):
            one.hear(first)
            other.hear(second)
        self.assertEqual(one.document(), other.document())
        for deed in Folk(ROLL, deeds).deeds():
            self.assertEqual((one.hear(deed), other.hear(deed)), ([], []))

    def test_lists_are_the_asker_s_own(self):
        roll = list(ROLL)
        store = Store(roll)
        heard_all(store, told(ROLL, "ann put . - a\nann part ."))
        store.hear(a_deed("bob", 2, (0, 1)))
        roll.append("x")
        for asked in (store.deeds, store.waiting, store.facts, store.document, lambda: store.lacking((0, 0))):
            kept = copy.deepcopy(asked())
            asked().clear()
            self.assertEqual(asked(), kept)
        store.document()[0][2].clear()
        self.assertEqual(len(store.document()[0][2]), 1)


class Lacking(unittest.TestCase):
    def test_those_beyond_the_counts_by_keys(self):
        deeds = Folk(ROLL, some_deeds(random.Random(7), ROLL, 20)).deeds()
        store = Store(ROLL)
        heard_all(store, deeds)
        for counts in ((0, 0), (3, 0), (0, 4), (2, 2), store.counts(), (99, 99), (99, 1)):
            wanted = [deed for deed in deeds if deed[1] > counts[ROLL.index(deed[0])]]
            self.assertEqual(store.lacking(counts), wanted)

    def test_told_to_another_store(self):
        for turn in range(20):
            chance = random.Random(turn)
            deeds = Folk(THREE, some_deeds(chance, THREE, 25)).deeds()
            one, other = Store(THREE), Store(THREE)
            heard_all(one, deeds)
            heard_all(other, deeds[:chance.randrange(len(deeds))])
            heard_all(other, one.lacking(other.counts()))
            self.assertEqual(other.deeds(), one.deeds())
            self.assertEqual(other.document(), one.document())


class Would(unittest.TestCase):
    def test_as_good_as_the_deed_is(self):
        for turn in range(40):
            chance = random.Random(turn)
            maker = Maker(chance, ROLL, KINDS + ["pour"] * 3)
            maker.founded()
            store = Store(ROLL)
            for step in range(25):
                maker.all_hear()
                heard_all(store, maker.deeds())
                deed = maker.step()
                self.assertEqual(deed[2], store.counts())
                self.assertIs(store.would(deed), Judge(Folk(ROLL, maker.deeds())).good(deed[:2]))
                self.assertEqual(store.counts(), deed[2])

    def test_greatest_and_keepsake_now(self):
        text = "ann put . - a b\nann out . ann.1.0" + SETTLED
        store = Store(ROLL)
        heard_all(store, told(ROLL, text))
        folk = Folk(ROLL, store.deeds())
        for hand in ROLL:
            self.assertEqual(store.greatest(hand), greatest_pour(folk, hand))
        heard_all(store, told(ROLL, text + "ann pour 2,0\nann pour 0,0"))
        self.assertEqual(store.keepsake_now(n(5)), keepsake_of(Folk(ROLL, store.deeds()), n(5)))
        for name in (n(1), n(6), n(7), n(1, "bob"), n(9, "bob"), ("cyd", 1)):
            with self.assertRaises(NoThing):
                store.keepsake_now(name)


class Begun(unittest.TestCase):
    TEXT = "ann put . - a b\nann leave . bob write yes\nann leave . bob read yes\nann out . ann.1.0" + SETTLED + "ann pour 4,0\n"

    def begun(self):
        deeds = told(ROLL, self.TEXT)
        return Store(ROLL, keepsake_of(Folk(ROLL, deeds), n(7))), deeds

    def test_counts_and_no_deeds(self):
        store, deeds = self.begun()
        self.assertEqual((store.deeds(), store.counts(), store.waiting()), ([], (4, 0), []))
        self.assertEqual(store.document(), [("", MAIN, [(("ann", 1, 1), "b", [])], [], ([], [], []))])
        self.assertEqual(store.document("bob"), store.document())

    def test_deeds_within_the_counts_are_heard_as_had(self):
        store, deeds = self.begun()
        self.assertEqual(heard_all(store, deeds[:4]), [[], [], [], []])
        self.assertEqual(store.hear(a_deed("ann", 2, (1, 0))), [])
        self.assertEqual((store.deeds(), store.waiting(), store.counts()), ([], [], (4, 0)))
        with self.assertRaises(NoDeed):
            store.hear(a_deed("ann", 2, (0, 0)))

    def test_deeds_beyond(self):
        store, deeds = self.begun()
        self.assertEqual(store.hear(deeds[-1]), [])
        self.assertEqual(store.waiting(), [n(7)])
        taken = []
        for deed in deeds[4:-1]:
            taken.extend(store.hear(deed))
        self.assertEqual(taken, [n(5), n(1, "bob"), n(6), n(2, "bob"), n(7)])
        self.assertEqual(store.counts(), (7, 2))
        self.assertEqual(store.deeds(), Folk(ROLL, deeds).deeds()[4:])
        with self.assertRaises(Unlike):
            store.hear(a_deed("ann", 6, (5, 0)))

    def test_deeds_that_had_heard_less_than_the_counts(self):
        store, deeds = self.begun()
        with self.assertRaises(NoPast):
            store.hear(a_deed("bob", 1, (3, 0)))
        self.assertEqual(store.hear(a_deed("bob", 2, (2, 1))), [])
        self.assertEqual(store.waiting(), [n(2, "bob")])
        self.assertEqual(store.hear(a_deed("bob", 1, (4, 0))), [n(1, "bob")])
        self.assertEqual(store.waiting(), [])
        self.assertEqual(store.counts(), (4, 1))

    def test_poured(self):
        store, deeds = self.begun()
        heard_all(store, deeds)
        for counts in ((0, 0), (3, 0), (3, 99)):
            with self.assertRaises(FolkError) as caught:
                store.lacking(counts)
            self.assertIs(type(caught.exception), Poured)
        self.assertEqual(store.lacking((4, 0)), store.deeds())
        self.assertEqual(store.lacking((5, 1)), Folk(ROLL, deeds).deeds()[6:])
        self.assertEqual(store.lacking((9, 9)), [])

    def test_its_own_pour_goes_not_beyond(self):
        store, deeds = self.begun()
        heard_all(store, deeds)
        with self.assertRaises(NoThing):
            store.keepsake_now(n(7))
        with self.assertRaises(NoThing):
            store.keepsake_now(n(1))

    def test_words_about_deeds_within_the_counts(self):
        store, deeds = self.begun()
        heard_all(store, deeds)
        for word in ("back", "again"):
            self.assertIs(store.would(("ann", 8, store.counts(), None, (word, 1))), False)
        self.assertIs(store.would(("ann", 8, store.counts(), None, ("put", MAIN, ("ann", 1, 1), ("c",)))), True)
        self.assertIs(store.would(("ann", 8, store.counts(), None, ("put", MAIN, ("ann", 1, 0), ("c",)))), False)

    def test_what_is_done_to_the_keepsake_changes_nothing(self):
        deeds = told(ROLL, self.TEXT)
        kept = keepsake_of(Folk(ROLL, deeds), n(7))
        handed = copy.deepcopy(kept)
        store = Store(ROLL, kept)
        shown = store.document()
        heard_all(store, deeds + told(ROLL, self.TEXT + "ann put . ann.1.1 c\nann out . ann.1.1"))
        self.assertEqual(kept, handed)
        store = Store(ROLL, kept)
        for key in list(kept):
            if isinstance(kept[key], (list, dict)):
                kept[key].clear()
        self.assertEqual(store.document(), shown)

    def test_births_and_notes_are_its_own(self):
        text = ("ann part .\nann part ann.1\nann leave . bob read yes\nann leave ann.1 bob read no\nann move ann.2 .\n"
                "ann put . - a\nann note . ann.6.0< ann.6.0> why" + SETTLED + "ann pour 7,0\n")
        kept = keepsake_of(Folk(ROLL, told(ROLL, text)), n(10))
        store = Store(ROLL, kept)
        shown = store.document("bob")
        self.assertEqual([entry[2] is None for entry in shown], [False, True, True])
        for key in ("births", "notes", "leaves", "parts", "roll"):
            kept[key].clear()
        self.assertEqual(store.document("bob"), shown)

    def test_a_pour_of_lesser_counts(self):
        """What a lesser pour rests on is poured: it isn't told as good, and gives no keepsake."""
        store, deeds = self.begun()
        heard_all(store, deeds)
        lesser = ("ann", 8, store.counts(), None, ("pour", (1, 0)))
        self.assertIs(store.would(lesser), False)
        store.hear(lesser)
        with self.assertRaises(NoThing):
            store.keepsake_now(n(8))

    def test_held_against_a_store_that_heard_all(self):
        tried = 0
        for turn in range(60):
            chance = random.Random(turn)
            roll = chance.choice([ROLL, THREE])
            maker, pours = some_poured(chance, roll, lambda past, hand: greatest_pour(Folk(roll, past), hand), 2)
            folk = Folk(roll, maker.deeds())
            for name in [name for name in pours if Judge(folk).good(name)]:
                kept = keepsake_of(folk, name)
                later = [deed for deed in folk.deeds() if deed[1] > kept["counts"][roll.index(deed[0])]]
                begun, whole = Store(roll, kept), Store(roll)
                heard_all(whole, [deed for deed in folk.deeds() if deed not in later])
                for deed in chance.sample(later, len(later)):
                    tried += 1
                    self.assertEqual(begun.hear(deed), whole.hear(deed))
                    self.hold(chance, maker, kept, begun, whole)
                for other in pours:
                    self.hold_keepsake(kept, begun, whole, other)
        self.assertGreater(tried, 300)

    def hold(self, chance, maker, kept, begun, whole):
        roll = maker.roll
        self.assertEqual((begun.counts(), begun.waiting()), (whole.counts(), whole.waiting()))
        hand = chance.choice([None] + roll)
        self.assertEqual(begun.document(hand), whole.document(hand))
        branch = chance.choice(maker.own_branches)
        if branch + ("drop",) not in kept["words"]:
            self.assertEqual(document(begun.facts(branch), roll, hand), document(whole.facts(branch), roll, hand))
        pourer = chance.choice(roll)
        greatest = whole.greatest(pourer)
        goes_beyond = greatest is not None and greatest != kept["counts"] and all(
            count >= own for count, own in zip(greatest, kept["counts"]))
        self.assertEqual(begun.greatest(pourer), greatest if goes_beyond else None)
        maker.heard[pourer] = list(whole.counts())
        what = maker.any_doing(pourer)
        deed = (pourer, whole.counts()[roll.index(pourer)] + 1, whole.counts(), chance.choice([None, branch]), what)
        if what[0] in ("back", "again") and what[1] <= kept["counts"][roll.index(pourer)]:
            self.assertIs(begun.would(deed), False)
        else:
            self.assertIs(begun.would(deed), whole.would(deed))

    def hold_keepsake(self, kept, begun, whole, name):
        try:
            wanted = whole.keepsake_now(name)
        except NoThing:
            wanted = kept
        if wanted["counts"] == kept["counts"] or not all(a >= b for a, b in zip(wanted["counts"], kept["counts"])):
            with self.assertRaises(NoThing):
                begun.keepsake_now(name)
        else:
            self.assertEqual(begun.keepsake_now(name), wanted)


if __name__ == "__main__":
    unittest.main()
