"""What is promised over the whole program, by stores that hear in any order: [1], [3] (a) to (g)."""

import random
import unittest

from making import KINDS, Maker, some_deeds, some_poured
from pagefolk.documents import document
from pagefolk.errors import NoThing
from pagefolk.facts import facts_of
from pagefolk.judging import Judge
from pagefolk.looker import is_right
from pagefolk.papers import paper_for
from pagefolk.pours import greatest_pour
from pagefolk.sets import Folk
from pagefolk.shows import shown
from pagefolk.signs import row_of
from pagefolk.stores import Store
from plain import Plain
from plain import document as plain_document
from plain import shown as plain_shown

ROLL = ["ann", "bob", "cyd"]


def sets(many, branches=(None, None, None, 0, 1)):
    for turn in range(many):
        chance = random.Random(1000 + turn)
        yield chance, some_deeds(chance, ROLL, chance.randint(10, 30), KINDS, list(branches))


class Whole(unittest.TestCase):
    def test_what_is_shown_hangs_on_the_set_alone(self):
        """(a): behind each deed that can be taken up, whatever the order."""
        for chance, deeds in sets(25):
            plain = Plain(ROLL, deeds)
            wanted = [plain_shown(plain_document(plain.facts(), ROLL, hand)) for hand in [None] + ROLL]
            for order in range(3):
                store = Store(ROLL)
                for deed in chance.sample(deeds, len(deeds)) + chance.sample(deeds, 5):
                    store.hear(deed)
                self.assertEqual([shown(store.document(hand)) for hand in [None] + ROLL], wanted)
                self.assertEqual(store.waiting(), [])

    def test_the_order_of_two_signs_never_changes(self):
        """(b): along all that a store hears."""
        for chance, deeds in sets(25):
            store = Store(ROLL)
            rows = {}
            for deed in chance.sample(deeds, len(deeds)):
                store.hear(deed)
                facts = store.facts(chance.choice([None, ("ann", "try")]))
                for part in {sign[0] for sign in facts["signs"]}:
                    row = row_of(facts, part)
                    before = rows.get(part, [])
                    self.assertEqual([name for name in row if name in before], before)
                    rows[part] = row

    def test_each_sign_has_just_one_kind_of_paper(self):
        """(c): shown, or one of the others."""
        for chance, deeds in sets(15):
            store = Store(ROLL)
            for deed in deeds:
                store.hear(deed)
            folk = Folk(ROLL, store.deeds())
            seen = [sign[0] for entry in store.document() for sign in entry[2]]
            for sign in store.facts()["signs"]:
                paper = paper_for(folk, sign[1])
                self.assertEqual(paper[0] == "shown", sign[1] in seen)
                self.assertIs(is_right(folk, sign[1], paper), True)

    def test_nothing_is_shown_for_which_there_was_no_leave(self):
        """(d): each shown sign's put was let and good when it was made."""
        for chance, deeds in sets(25):
            plain = Plain(ROLL, deeds)
            judge = Judge(Folk(ROLL, deeds))
            for entry in document(plain.facts(), ROLL):
                for name, text, marks in entry[2]:
                    self.assertTrue(plain.leave(plain.ground(name[:2]), name[0], entry[1], "write"))
                    self.assertIs(judge.good(name[:2]), True)

    def test_taken_back_and_done_again_is_as_if_both_words_did_nothing(self):
        """(e): a hand's two next deeds, whatever comes behind them."""
        tried = 0
        for turn in range(120):
            chance = random.Random(turn)
            maker = Maker(chance, ROLL)
            maker.founded()
            for step in range(12):
                maker.step()
            hand = chance.choice(ROLL)
            own = [deed for deed in maker.deeds() if deed[0] == hand]
            if not own:
                continue
            turned = chance.choice(own[-3:])
            stood = Judge(Folk(ROLL, maker.past(hand))).stands(turned[:2])
            words = [maker.does(hand, (word, turned[1]), turned[3])[:2] for word in ("back", "again")]
            for step in range(12):
                maker.step()
            # A deed that heard of the back alone is one that was made between both: there is none.
            deeds = [deed for deed in maker.deeds()
                     if deed[2][ROLL.index(hand)] != words[0][1] or deed[:2] == words[1] or deed[0] == hand]
            if len(deeds) < len(maker.deeds()):
                continue
            folk = Folk(ROLL, deeds)
            if not stood or not all(Judge(folk).good(name) for name in words):
                continue
            tried += 1
            bare = Folk(ROLL, [deed[:4] + (("nothing",),) if deed[:2] in words else deed for deed in deeds])
            for of_hand in [None] + ROLL:
                self.assertEqual(document(facts_of(folk), ROLL, of_hand), document(facts_of(bare), ROLL, of_hand))
        self.assertGreater(tried, 30)

    def test_a_branch_of_which_nothing_is_said_shows_nothing(self):
        """(f): as if each of its deeds had been one on it that does nothing; brought in, they count."""
        for chance, deeds in sets(25):
            store, bare = Store(ROLL), Store(ROLL)
            words = Judge(Folk(ROLL, deeds))
            left = [branch for branch in (("ann", "try"), ("cyd", "odd")) if words.word_of(branch) != "bring"]
            for deed in deeds:
                store.hear(deed)
                bare.hear(deed[:4] + (("nothing",),) if deed[3] in left else deed)
            for hand in [None] + ROLL:
                self.assertEqual(store.document(hand), bare.document(hand))

    def test_a_keepsake_and_the_deeds_behind_it_show_what_all_show(self):
        """(g): also by one keepsake upon another, for whatever deeds come behind."""
        tried = 0
        for turn in range(25):
            chance = random.Random(turn)
            maker, pours = some_poured(chance, ROLL, lambda past, hand: greatest_pour(Folk(ROLL, past), hand), 3)
            whole = Store(ROLL)
            for deed in maker.deeds():
                whole.hear(deed)
            begun = whole
            for name in pours:
                try:
                    kept = begun.keepsake_now(name)
                except NoThing:
                    continue
                anew = Store(ROLL, kept)
                later = begun.lacking(kept["counts"])
                for deed in chance.sample(later, len(later)):
                    anew.hear(deed)
                begun = anew
                tried += 1
                for hand in [None] + ROLL:
                    self.assertEqual(begun.document(hand), whole.document(hand))
                self.assertEqual(begun.counts(), whole.counts())
        self.assertGreater(tried, 30)


if __name__ == "__main__":
    unittest.main()
