"""The desk: [2], [3], [42], [43]."""

import random
import unittest
from unittest.mock import ANY

from pagefolk.desk import Desk
from pagefolk.documents import document
from pagefolk.errors import FolkError, NoDeed, NoLeave, NoRow, NoThing, Poured
from pagefolk.facts import facts_of
from pagefolk.judging import Judge
from pagefolk.papers import paper_for
from pagefolk.sets import Folk
from pagefolk.shows import shown

ROLL = ["ann", "bob"]
THREE = ["ann", "bob", "cyd"]
MAIN = ("", 0)


def desk_with(*rows, roll=ROLL):
    desk = Desk(roll)
    for row in rows:
        desk.say(row)
    return desk


def settle(desk, roll=ROLL):
    for turn in range(2):
        for hand in roll:
            for other in roll:
                desk.say(f"{hand} hears {other}")
            desk.say(f"{hand} does nothing")
    for turn in range(2):
        for hand in roll:
            for other in roll:
                desk.say(f"{hand} hears {other}")


def shows(desk, roll=ROLL):
    return [desk.say(f"{hand} shows") for hand in roll]


class Told(unittest.TestCase):
    def says(self, desk, *rows_and_answers):
        for row, answer in rows_and_answers:
            self.assertEqual(desk.say(row), answer, row)

    def refused(self, desk, error, *rows):
        for row in rows:
            before = shows(desk)
            with self.assertRaises(FolkError, msg=row) as caught:
                desk.say(row)
            self.assertIs(type(caught.exception), error, row)
            self.assertEqual(shows(desk), before)


class Rows(Told):
    def test_put(self):
        self.says(Desk(ROLL), ("ann put . 0 hello world", "1"), ("ann shows", "part .\ntext hello world"),
                  ("ann put . 5 , my dear good", "2 3"), ("ann shows", "part .\ntext hello, my dear good world"),
                  ("ann put . 0 ", "none"), ("ann put . 0   ", "4"), ("ann shows", "part .\ntext   hello, my dear good world"),
                  ("ann put . 27  ", "5"))

    def test_put_in_parts(self):
        self.says(Desk(ROLL), ("ann does part .", "1"), ("ann put ann.1 0 a", "2"), ("ann shows", "part .\npart 1\ntext a"),
                  ("ann put ann.1 1 " + "b" * 30, "3 4 5"))

    def test_out(self):
        self.says(desk_with("ann put . 0 abcdefghijklmnop"), ("ann out . 1 13", "3 4"), ("ann shows", "part .\ntext aop"),
                  ("ann out . 0 0", "none"), ("ann out . 3 0", "none"), ("ann out . 0 3", "5"), ("ann shows", "part ."))

    def test_write(self):
        self.says(desk_with("ann put . 0 abc"), ("ann write . abc", "none"), ("ann write . axc", "2 3"),
                  ("ann shows", "part .\ntext axc"), ("ann write . ", "4"), ("ann shows", "part ."), ("ann write . ", "none"),
                  ("ann write .   a", "5"), ("ann shows", "part .\ntext   a"))

    def test_mark_and_note(self):
        self.says(desk_with("ann put . 0 abc"), ("ann mark . 0 1 b on", "2"), ("ann note . 2 2 why", "3"),
                  ("ann shows", "part .\ntext abc\nmark b on 0 1\nnote why 2"), ("ann mark . 1 2 b -", "4"),
                  ("ann shows", "part .\ntext abc\nmark b on 0 0\nnote why 2"), ("ann note . 0 1 no", "5"),
                  ("ann out . 0 1", "6"), ("ann shows", "part .\ntext bc\nnote why 1\nnote no 0"), ("ann out . 0 1", "7"),
                  ("ann shows", "part .\ntext c\nnote why 0\nnote no loose"))

    def test_does(self):
        self.says(Desk(ROLL), ("ann does nothing", "1"), ("ann does part .", "2"), ("ann does line ann.2 row -", "3"),
                  ("ann does line ann.2 column -", "4"), ("ann does cell ann.2 ann.3 ann.4 up", "5"),
                  ("ann does cell ann.2 ann.3 ann.4 !", "6"), ("ann does back 6", "7"),
                  ("ann does put . - a _ . , *sun #. #ann.2", "8"), ("ann does leave . bob read yes", "9"),
                  ("ann shows", "part .\ntext a .,*sun##1\npart 1\ncells up"), ("ann does bring try", "10"),
                  ("ann does out . ann.8.0 ann.8.4", "11"), ("bob does nothing", "1"))

    def test_works(self):
        self.says(desk_with("ann put . 0 ab"), ("ann works ann.try", "ok"), ("ann put . 1 x", "2"), ("ann shows", "part .\ntext axb"),
                  ("ann works -", "ok"), ("ann shows", "part .\ntext ab"), ("ann works bob.odd", "ok"),
                  ("ann shows", "part .\ntext ab"), ("ann works -", "ok"), ("ann does bring try", "3"),
                  ("ann shows", "part .\ntext axb"))

    def test_hears(self):
        desk = desk_with("ann does leave . bob read yes", "ann put . 0 abc", "ann put . 3 d")
        self.says(desk, ("bob shows", "part .\nclosed"), ("bob hears bob", "0"), ("ann hears bob", "0"), ("bob hears ann 0", "0"),
                  ("bob hears ann", "3"), ("bob hears ann", "0"), ("bob shows", "part .\ntext abcd"))

    def test_hears_some_from_the_last_one_to_the_first(self):
        desk = desk_with("ann does leave . bob read yes", "ann put . 0 abc", "ann put . 3 d", "ann put . 4 e")
        self.says(desk, ("bob hears ann 2", "2"), ("bob shows", "part .\ntext abc"), ("bob hears ann 9", "2"),
                  ("bob shows", "part .\ntext abcde"), ("bob hears ann 5", "0"))

    def test_hears_what_the_other_one_heard(self):
        desk = desk_with("ann does leave . cyd read yes", "ann put . 0 a", roll=THREE)
        self.says(desk, ("bob hears ann", "2"), ("cyd hears bob", "2"), ("cyd shows", "part .\ntext a"))

    def test_paper(self):
        desk = desk_with("ann put . 0 abcd", "ann out . 1 1", "ann does part .", "ann put ann.3 0 x", "ann does cut ann.3",
                         "ann does part .", "ann put ann.6 0 y", "ann does back 6", "ann put . 0 z", "ann does back 9")
        self.says(desk, ("ann paper ann.1.0", "shown"), ("ann paper ann.1.1", "out"), ("ann paper ann.4.0", "cut"),
                  ("ann paper ann.7.0", "lost"), ("ann paper ann.9.0", "unput"))
        self.refused(desk, NoThing, "ann paper ann.1.4", "ann paper ann.2.0", "ann paper bob.1.0", "ann paper ann.99.0",
                     "bob paper ann.1.0")
        desk.say("bob hears ann")
        self.says(desk, ("bob paper ann.1.0", "shown"))


class Pours(Told):
    def settled(self):
        desk = desk_with("ann does leave . bob read yes", "ann does leave . bob write yes", "ann put . 0 abcd", "ann out . 1 1")
        settle(desk)
        return desk

    def test_none(self):
        self.says(Desk(ROLL), ("ann pours", "none"), ("ann does nothing", "1"), ("ann pours", "none"), ("bob pours", "none"))

    def test_pours_and_begins(self):
        desk = self.settled()
        before = shows(desk)
        self.says(desk, ("ann pours", "7"), ("bob begins ann ann.7", "ok"))
        self.assertEqual(shows(desk), before)
        self.refused(desk, Poured, "bob paper ann.1.0", "bob paper ann.99.0", "bob paper ann.3.0")
        self.says(desk, ("bob put . 1 x", "3"), ("bob hears ann", "0"), ("ann hears bob", "1"), ("ann shows", "part .\ntext axcd"),
                  ("bob shows", "part .\ntext axcd"))
        self.says(desk, ("ann put . 0 y", "8"), ("bob hears ann", "1"), ("bob shows", "part .\ntext yaxcd"))

    def test_on_a_branch(self):
        desk = self.settled()
        desk.say("ann works ann.try")
        self.refused(desk, NoLeave, "ann pours")
        desk.say("ann works -")
        self.says(desk, ("ann pours", "7"))
        other = desk_with("ann works ann.try")
        self.says(other, ("ann pours", "none"))

    def test_without_the_leave_to_write(self):
        desk = desk_with("ann does leave . bob read yes", "ann put . 0 abcd")
        settle(desk)
        self.refused(desk, NoLeave, "bob pours")
        self.says(desk, ("ann pours", "5"))

    def test_works_on_the_main_anew(self):
        desk = self.settled()
        desk.say("ann pours")
        desk.say("bob works bob.odd")
        desk.say("bob begins ann ann.7")
        self.says(desk, ("bob put . 0 x", "3"), ("ann hears bob", "1"), ("ann shows", "part .\ntext xacd"))

    def test_who_lacks_deeds_of_the_hand_s_own(self):
        desk = self.settled()
        desk.say("ann pours")
        desk.say("bob does nothing")
        self.refused(desk, NoThing, "bob begins ann ann.7")
        desk.say("ann hears bob")
        self.says(desk, ("bob begins ann ann.7", "ok"))

    def test_what_is_no_good_pour_there(self):
        desk = self.settled()
        desk.say("ann pours")
        self.refused(desk, NoThing, "bob begins ann ann.6", "bob begins ann ann.9", "bob begins ann bob.1", "bob begins bob ann.7",
                     "ann begins bob ann.7")
        self.says(desk, ("ann begins ann ann.7", "ok"), ("ann shows", "part .\ntext acd"))
        self.refused(desk, NoThing, "ann begins ann ann.7", "bob begins ann ann.7")

    def test_hearing_from_who_began_anew(self):
        desk = desk_with("ann does leave . bob read yes", "ann put . 0 abc", roll=THREE)
        settle(desk, THREE)
        self.says(desk, ("ann pours", "5"), ("bob begins ann ann.5", "ok"), ("cyd hears bob", "1"), ("bob hears cyd", "0"),
                  ("cyd does nothing", "3"), ("bob hears cyd", "1"), ("ann hears bob", "1"), ("ann hears cyd", "0"))

    def test_who_began_anew_answers_the_same(self):
        """Two desks told the same, but that on one of them hands begin anew now and then."""
        begun = 0
        for turn in range(40):
            chance = random.Random(turn)
            roll = chance.choice([ROLL, THREE])
            plain, anew = Desk(roll), Desk(roll)
            first = [f"ann does leave . {hand} {to} yes" for hand in roll[1:] for to in ("read", "write")]
            for desk in (plain, anew):
                for row in first + ["ann put . 0 hello"]:
                    desk.say(row)
            for round_of in range(3):
                for step in range(12):
                    self.both(plain, anew, self.any_row(chance, roll))
                for desk in (plain, anew):
                    for hand in roll:
                        desk.say(f"{hand} works -")
                    settle(desk, roll)
                pourer = chance.choice(roll)
                number = plain.say(f"{pourer} pours")
                if number == "none" or anew.say(f"{pourer} pours") == "none":
                    break
                for hand in roll:
                    self.both(plain, anew, f"{hand} hears {pourer}")
                for hand in roll:
                    if hand != pourer and chance.random() < 0.6:
                        begun += 1
                        self.assertEqual(anew.say(f"{hand} begins {pourer} {pourer}.{number}"), "ok")
                self.assertEqual(shows(plain, roll), shows(anew, roll))
        self.assertGreater(begun, 30)

    def both(self, plain, anew, row):
        answers = []
        for desk in (plain, anew):
            try:
                answers.append(desk.say(row))
            except FolkError as error:
                answers.append(type(error))
        self.assertEqual(answers[0], answers[1], row)

    def any_row(self, chance, roll):
        hand = chance.choice(roll)
        place, many = chance.randint(0, 6), chance.randint(0, 3)
        text = "".join(chance.choices("abc .", k=many))
        return f"{hand} " + chance.choice([
            f"put . {place} {text}", f"out . {place} {many}", f"write . {text}", f"mark . {place} {place + many} b on",
            f"note . {place} {place} why", "does part .", "does line . row -", f"does back {place + 1}", f"does again {place + 1}",
            f"hears {chance.choice(roll)}", f"hears {chance.choice(roll)} {many}", "shows", f"works {hand}.t", "works -",
            f"does drop {chance.choice('tu')}", f"does bring {chance.choice('tu')}", f"put ann.{place} 0 {text}", "does nothing"])


class Refused(Told):
    def test_things_that_are_no_rows(self):
        desk = desk_with("ann put . 0 abc")
        for thing in (None, 0, True, 1.5, b"ann shows", [], (), {}, ["ann", "shows"], ("ann", "shows"), ANY, object(), Desk):
            self.refused(desk, NoRow, thing)

    def test_rows_that_are_none(self):
        self.refused(desk_with("ann put . 0 abc"), NoRow, "", " ", "ann", "ann ", "cyd shows", "Ann shows", "shows", "ann show",
                     "ann Shows", "ann shows ", " ann shows", "ann  shows", "ann shows\n", "ann\tshows", "ann shows it", "ann pours 1",
                     "ann pours ", "ann sees", "ann bob", "bob shows bob", "ann say", "ann hear bob", "- shows", ". shows")

    def test_put(self):
        self.refused(desk_with("ann put . 0 abc"), NoRow, "ann put", "ann put .", "ann put . 0", "ann put . 0 A", "ann put . 0 a1",
                     "ann put . 0 a_b", "ann put . 0 a\n", "ann put . 0 a*b", "ann put . x a", "ann put . -1 a", "ann put . +1 a",
                     "ann put . 00 a", "ann put . 01 a", "ann put .  0 a", "ann put  . 0 a", "ann put . 1000001 a",
                     "ann put . 99999999999 a", "ann put .. 0 a", "ann put ann 0 a", "ann put ann.0 0 a", "ann put ann.01 0 a",
                     "ann put ann.1.0 0 a", "ann put cyd.1 0 a", "ann put - 0 a", "ann put .0 0 a", "ann put Ann.1 0 a",
                     "ann put . 1.0 a", "ann put . 0 a-b", "ann put 0 . a", "ann put ann.1000001 0 a")

    def test_out_and_write(self):
        self.refused(desk_with("ann put . 0 abc"), NoRow, "ann out . 0", "ann out .", "ann out", "ann out . 0 1 ", "ann out . 0 1 1",
                     "ann out . 0 x", "ann out . 0 -1", "ann out . -1 1", "ann out . 0 01", "ann out . 0 ", "ann out  0 1",
                     "ann write", "ann write .", "ann write x a", "ann write . A", "ann write . a\tb", "ann write  a",
                     "ann write cyd.1 a", "ann out cyd.1 0 0")

    def test_mark_and_note(self):
        self.refused(desk_with("ann put . 0 abc"), NoRow, "ann mark . 0 1 b", "ann mark . 0 1 b on on", "ann mark . 0 1 B on",
                     "ann mark . 0 1 b On", "ann mark . 0 1 - on", "ann mark . 0 1 b !", "ann mark . 0 1 b ninewords",
                     "ann mark . 0 x b on", "ann mark . x 0 b on", "ann mark x 0 0 b on", "ann mark . 0 1 b ", "ann note . 0 1",
                     "ann note . 0 1 -", "ann note . 0 1 A", "ann note . 0 1 a b", "ann note . 0 1 ", "ann note . 00 1 a",
                     "ann note . 0 1 ninewords", "ann note 0 1 a")

    def test_does(self):
        self.refused(desk_with("ann put . 0 abc"), NoRow, "ann does", "ann does ", "ann does Nothing", "ann does nothing ",
                     "ann does nothing nothing", "ann does  nothing", "ann does part", "ann does part cyd.1", "ann does put . -",
                     "ann does put . - ab", "ann does put . - a ", "ann does cut .", "ann does out . ann.1.0 ann.1.0",
                     "ann does back", "ann does back 0", "ann does back x", "ann does back 1000001", "ann does again 01",
                     "ann does leave . cyd read yes", "ann does leave . bob read maybe", "ann does pour 0", "ann does pour 0,0,0",
                     "ann does ann 1 0,0 - nothing", "ann does put . - " + " ".join("a" * 13), "ann does bring A", "ann does cell")

    def test_others(self):
        self.refused(desk_with("ann put . 0 abc"), NoRow, "ann works", "ann works ", "ann works ann", "ann works cyd.try",
                     "ann works ann.Try", "ann works - -", "ann works ann.try x", "ann works .", "ann works ann.1", "ann hears",
                     "ann hears cyd", "ann hears bob x", "ann hears bob -1", "ann hears bob 01", "ann hears bob 1 1", "ann hears bob ",
                     "ann hears Bob", "ann hears 1", "ann begins", "ann begins bob", "ann begins bob bob", "ann begins cyd ann.1",
                     "ann begins bob cyd.1", "ann begins bob bob.0", "ann begins bob bob.1.0", "ann begins bob .",
                     "ann begins bob bob.1 x", "ann paper", "ann paper ann.1", "ann paper ann.1.0.0", "ann paper .",
                     "ann paper cyd.1.0", "ann paper ann.0.0", "ann paper ann.1.01", "ann paper ann.1.0 x", "ann paper ann.1.0 ",
                     "ann paper Ann.1.0", "ann paper ann.1.1000001", "ann paper ann.1.0<")

    def test_what_the_stages_refuse(self):
        desk = desk_with("ann put . 0 abc", "ann does leave . bob read yes", "bob hears ann")
        self.refused(desk, NoDeed, "ann does back 3", "ann does again 3", "ann does back 99", "ann does back 1000000",
                     "bob does back 1")
        self.refused(desk, NoThing, "ann put . 4 x", "ann put ann.1 0 x", "ann put bob.9 0 x", "ann out . 0 4", "ann out . 4 0",
                     "ann write ann.1 x", "ann mark . 1 0 b on", "ann mark . 0 3 b on", "ann note . 3 3 x", "ann does part ann.1",
                     "ann does put . - #ann.1", "ann put . 1000000 x", "bob put . 4 x")
        self.refused(desk, NoLeave, "bob put . 0 x", "bob out . 0 1", "bob write . x", "bob mark . 0 0 b on", "bob note . 0 0 b",
                     "bob does part .", "bob does bring try", "ann does put . ann.9.0 a", "ann does pour 0,0")
        self.says(desk, ("ann does back 2", "3"), ("bob put . 0 ", "none"), ("bob write . abc", "none"))

    def test_a_row_refused_leaves_numbers_as_they_were(self):
        desk = desk_with("ann put . 0 abc")
        self.refused(desk, NoThing, "ann put . 9 x")
        self.refused(desk, NoRow, "ann put . 9")
        self.refused(desk, NoDeed, "ann does back 2")
        self.says(desk, ("ann put . 0 x", "2"))

    def test_desks_are_apart(self):
        roll = list(ROLL)
        one, other = Desk(roll), Desk(roll)
        roll.clear()
        one.say("ann put . 0 a")
        self.assertEqual(other.say("ann shows"), "part .")
        self.assertEqual(one.say("bob hears ann"), "1")


class Whole(unittest.TestCase):
    def test_what_all_have_heard_all_show(self):
        """[3] (a), (c), (d): hands that hear one another in bits come to show the same, and each sign has its paper."""
        for turn in range(15):
            chance = random.Random(turn)
            desk = Desk(THREE)
            for hand in THREE[1:]:
                for to in ("read", "write"):
                    desk.say(f"ann does leave . {hand} {to} yes")
            for step in range(50):
                row = Pours().any_row(chance, THREE)
                try:
                    desk.say(row)
                except FolkError:
                    continue
            for hand in THREE:
                desk.say(f"{hand} works -")
            for turn_of in range(3):
                for hand in THREE:
                    for other in THREE:
                        desk.say(f"{hand} hears {other} {chance.choice((1, 3, 99))}")
                        desk.say(f"{hand} hears {other}")
            told = [hand.deeds() for hand in desk.seated.values()]
            self.assertEqual(told[0], told[1])
            self.assertEqual(told[1], told[2])
            folk = Folk(THREE, told[0])
            for hand in THREE:
                self.assertEqual(desk.say(f"{hand} shows"), shown(document(facts_of(folk), THREE, hand)))
            self.assertTrue(all(Judge(folk).good(name) for name in folk.names()))
            for deed in told[0]:
                if deed[4][0] == "put":
                    name = ".".join([deed[0], str(deed[1]), "0"])
                    self.assertEqual(desk.say(f"bob paper {name}"), paper_for(folk, deed[:2] + (0,))[0])


if __name__ == "__main__":
    unittest.main()
