"""Whole sets of deeds, made at random as hands that hear one another would make them."""

from pagefolk.letters import read_branch, read_what

MAIN = ("", 0)
LETTERS = "abcdefgh .,"
KINDS = ["put"] * 8 + ["out"] * 4 + ["part"] * 4 + ["move"] * 4 + ["cut"] + ["mark"] * 4 + ["note"] * 2 + ["line"] * 4 + [
    "strike"] + ["cell"] * 3 + ["leave"] * 3 + ["back"] * 4 + ["again"] * 3 + ["bring"] + ["drop"] + ["nothing"]
BRANCHES = [None] * 6 + [0, 1]


class Maker:
    """Makes deeds one by one; what they name is mostly there in their past."""

    def __init__(self, chance, roll, kinds=KINDS, branches=BRANCHES):
        self.chance = chance
        self.roll = list(roll)
        self.kinds = kinds
        self.own_branches = [(roll[0], "try"), (roll[-1], "odd")]
        self.branches = branches
        self.heard = dict((hand, [0] * len(roll)) for hand in roll)
        self.made = {}

    def hears(self, hand, other, number=None):
        """The hand hears a deed of the other one, and its past."""
        seat = self.roll.index(other)
        number = self.heard[other][seat] if number is None else number
        if number > 0:
            reached = list(self.made[(other, number)][2])
            reached[seat] = number
            self.heard[hand] = [max(pair) for pair in zip(self.heard[hand], reached)]

    def all_hear(self):
        for turn in range(2):
            for hand in self.roll:
                for other in self.roll:
                    self.hears(hand, other)

    def does(self, hand, what, branch=None):
        seat = self.roll.index(hand)
        deed = (hand, self.heard[hand][seat] + 1, tuple(self.heard[hand]), branch, what)
        self.made[deed[:2]] = deed
        self.heard[hand][seat] += 1
        return deed

    def deeds(self):
        return list(self.made.values())

    def past(self, hand):
        counts = self.heard[hand]
        return [deed for deed in self.made.values() if deed[1] <= counts[self.roll.index(deed[0])]]

    def founded(self):
        """The founder gives most leaves to all, and all have heard it."""
        for hand in self.roll[1:]:
            for to in ("read", "write", "give"):
                if self.chance.random() < 0.8:
                    self.does(self.roll[0], ("leave", MAIN, hand, to, True))
        for hand in self.roll[1:]:
            self.hears(hand, self.roll[0])

    def step(self):
        chance = self.chance
        hand = chance.choice(self.roll)
        if chance.random() < 0.6:
            other = chance.choice(self.roll)
            most = self.heard[other][self.roll.index(other)]
            if most > 0:
                self.hears(hand, other, chance.choice([most, chance.randint(1, most)]))
        branch = chance.choice(self.branches)
        what = self.any_doing(hand)
        return self.does(hand, what, None if branch is None else self.own_branches[branch])

    def parts(self, hand):
        return [deed[:2] for deed in self.past(hand) if deed[4][0] == "part"]

    def signs(self, hand, part):
        puts = [deed for deed in self.past(hand) if deed[4][0] == "put" and deed[4][1] == part]
        return [deed[:2] + (i,) for deed in puts for i in range(len(deed[4][3]))]

    def lines(self, hand, part, way=None):
        lines = [deed for deed in self.past(hand) if deed[4][0] == "line" and deed[4][1] == part]
        return [deed[:2] for deed in lines if way is None or deed[4][2] == way]

    def any_sign(self):
        chance = self.chance
        if chance.random() < 0.85:
            return chance.choice(LETTERS)
        parts = [deed[:2] for deed in self.made.values() if deed[4][0] == "part"]
        return chance.choice([("picture", "sun"), ("refer", MAIN), ("refer", chance.choice(parts + [MAIN]))])

    def any_doing(self, hand):
        chance = self.chance
        kind = chance.choice(self.kinds)
        parts = self.parts(hand)
        part = chance.choice([MAIN] + parts)
        signs = self.signs(hand, part)
        if chance.random() < 0.03:
            part = chance.choice([MAIN] + parts)
        own = self.heard[hand][self.roll.index(hand)]
        if kind in ("move", "cut") and parts:
            part = chance.choice(parts)
            return (kind, part, chance.choice([MAIN] + parts)) if kind == "move" else (kind, part)
        if kind == "part":
            return (kind, part)
        if kind == "out" and signs:
            return (kind, part, tuple(chance.sample(signs, min(len(signs), chance.randint(1, 3)))))
        if kind in ("mark", "note") and signs:
            sides = [(chance.choice(signs), chance.choice(("ahead", "behind"))) for end in range(2)]
            told = (kind, part, sides[0], sides[1], chance.choice(("b", "it")))
            return told + (chance.choice(("on", "off", None)),) if kind == "mark" else told
        if kind == "leave":
            return (kind, part, chance.choice(self.roll), chance.choice(("read", "note", "write", "give")),
                    chance.random() < 0.7)
        if kind in ("back", "again") and own > 0:
            return (kind, chance.randint(max(1, own - 4), own))
        if kind in ("bring", "drop"):
            return (kind, chance.choice(("try", "odd")))
        if kind in ("line", "strike", "cell"):
            return self.any_table_doing(hand, part, kind)
        if kind == "nothing":
            return (kind,)
        if kind == "pour":
            return (kind, tuple(chance.randint(0, count) for count in self.heard[hand]))
        some = tuple(self.any_sign() for n in range(chance.randint(1, 3)))
        return ("put", part, chance.choice([None] + signs + signs[-2:]), some)

    def any_table_doing(self, hand, part, kind):
        chance = self.chance
        way = chance.choice(("row", "column"))
        lines = self.lines(hand, part)
        rows, columns = self.lines(hand, part, "row"), self.lines(hand, part, "column")
        if kind == "strike" and lines:
            return (kind, part, chance.choice(lines))
        if kind == "cell" and rows and columns:
            return (kind, part, chance.choice(rows), chance.choice(columns), chance.choice(("", "up", "down")))
        return ("line", part, way, chance.choice([None] + self.lines(hand, part, way)))


def some_deeds(chance, roll, many, kinds=KINDS, branches=BRANCHES, founded=True):
    maker = Maker(chance, roll, kinds, branches)
    if founded:
        maker.founded()
    for step in range(many):
        maker.step()
    return maker.deeds()


def settle(maker):
    """Words on branches are said, mostly, and all hear all, so that there is something to pour."""
    chance = maker.chance
    for branch in maker.own_branches:
        if chance.random() < 0.7:
            maker.does(branch[0], (chance.choice(("bring", "drop")), branch[1]))
    for turn in range(chance.choice((2, 3))):
        maker.all_hear()
        for hand in maker.roll:
            if chance.random() < 0.95:
                maker.does(hand, ("nothing",))
    if chance.random() < 0.8:
        maker.all_hear()


def some_poured(chance, roll, greatest, rounds=2, kinds=KINDS):
    """A maker, and the names of its pours; greatest tells the counts that a hand pours, of the deeds that it has heard."""
    maker = Maker(chance, roll, kinds)
    maker.founded()
    pours = []
    for turn in range(rounds):
        for step in range(chance.randint(3, 14)):
            maker.step()
        settle(maker)
        hand = chance.choice(roll)
        counts = greatest(maker.past(hand), hand)
        if counts is not None:
            pours.append(maker.does(hand, ("pour", counts))[:2])
    for step in range(chance.randint(0, 14)):
        maker.step()
    return maker, pours


def told(roll, text):
    """A list of deeds, told in rows.

    `ann put . - a`: ann does that, with all that she has heard; `ann/bob.try put . - a`: on bob's branch;
    `bob hears ann`: all that ann has heard and done; `all hear`: all hear all.
    """
    maker = Maker(None, roll)
    for row in text.strip().split("\n"):
        words = row.split("#  ")[0].strip().split(" ")
        if words == ["all", "hear"]:
            maker.all_hear()
        elif words[1] == "hears":
            heard = maker.heard[words[2]]
            maker.heard[words[0]] = [max(pair) for pair in zip(maker.heard[words[0]], heard)]
        else:
            hand, slash, branch = words[0].partition("/")
            maker.does(hand, read_what(words[1:]), read_branch(branch) if slash else None)
    return maker.deeds()
