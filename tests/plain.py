"""The document read word by word, slowly and without the program, to hold the program against."""

MAIN = ("", 0)
WORDS = ("back", "again", "bring", "drop")


def name_of(deed):
    return (deed[0], deed[1])


class Plain:
    """A whole set of deeds, by the points 5 and 11 to 25."""

    def __init__(self, roll, deeds):
        self.roll = list(roll)
        self.by_name = dict((name_of(deed), deed) for deed in deeds)
        self.all = frozenset(self.by_name)
        self.kept = {}

    def once(self, asked, answer):
        if asked not in self.kept:
            self.kept[asked] = answer()
        return self.kept[asked]

    # 5: pasts and keys

    def first_so_many(self, counts):
        return frozenset(name for name in self.all if name[1] <= counts[self.roll.index(name[0])])

    def past(self, name):
        return self.once(("past", name), lambda: self.first_so_many(self.by_name[name][2]))

    def height(self, name):
        return self.once(("height", name),
                         lambda: 1 + max([self.height(other) for other in self.past(name)], default=0))

    def key(self, name):
        return (self.height(name), self.roll.index(name[0]))

    def by_keys(self, names):
        return sorted(names, key=self.key)

    def what(self, name):
        return self.by_name[name][4]

    def of_kind(self, names, *kinds):
        return [name for name in self.by_keys(names) if self.what(name)[0] in kinds]

    # 11 to 13

    def known(self, name, past):
        return all(any(other[0] == hand and name in self.past(other) for other in past)
                   for hand in self.roll if hand != name[0])

    def good_words_on(self, name, there):
        return [word for word in self.of_kind(there, "back", "again")
                if word[0] == name[0] and self.what(word)[1] == name[1] and self.good(word)]

    def stands(self, name, there):
        words = self.good_words_on(name, there)
        return not words or self.what(max(words, key=lambda word: word[1]))[0] != "back"

    def good_word_about(self, branch, there):
        words = [word for word in self.of_kind(there, "bring", "drop")
                 if (word[0], self.what(word)[1]) == branch and self.good(word)]
        assert len(words) < 2, words
        return words[0] if words else None

    def word_of(self, branch, there=None):
        word = self.good_word_about(branch, self.all if there is None else there)
        return word and self.what(word)[0]

    def counts(self, name, there, branch):
        own = self.by_name[name][3]
        if not (self.good(name) and self.stands(name, there)):
            return False
        return own is None or own == branch or self.word_of(own, there) == "bring"

    def counting(self, there, branch=None):
        return self.once(("counting", there, branch),
                         lambda: [name for name in self.by_keys(there) if self.counts(name, there, branch)])

    def ground(self, name):
        return self.counting(self.past(name), self.by_name[name][3])

    # 14, 15

    def chain(self, part):
        return [MAIN] if part == MAIN else [part] + self.chain(self.what(part)[1])

    def let(self, ground, hand, part, to):
        for one in self.chain(part):
            told = [name for name in self.of_kind(ground, "leave") if self.what(name)[1:4] == (one, hand, to)]
            if told:
                return self.what(max(told, key=self.key))[4]
        return False

    def leave(self, ground, hand, part, to):
        if hand == self.roll[0] or self.let(ground, hand, part, to):
            return True
        return to == "note" and self.let(ground, hand, part, "write")

    # 16

    def part_there(self, ground, part):
        if part == MAIN:
            return True
        cut = [name for name in self.of_kind(ground, "cut") if self.what(name)[1] == part]
        return part in self.of_kind(ground, "part") and not cut

    def sign_there(self, ground, part, sign):
        put = sign[:2] in self.of_kind(ground, "put")
        if not put or self.what(sign[:2])[1] != part or sign[2] >= len(self.what(sign[:2])[3]):
            return False
        return not any(sign in self.what(name)[2] for name in self.of_kind(ground, "out"))

    def line_there(self, ground, part, line, way=None):
        if line not in self.of_kind(ground, "line") or self.what(line)[1] != part:
            return False
        if way is not None and self.what(line)[2] != way:
            return False
        return not any(self.what(name)[2] == line for name in self.of_kind(ground, "strike"))

    def all_there(self, ground, what):
        parts, signs, lines = [], [], []
        if what[0] in ("part", "cut", "put", "out", "mark", "note", "line", "strike", "cell", "leave", "move"):
            parts.append(what[1])
        if what[0] == "move":
            parts.append(what[2])
        if what[0] == "put":
            parts.extend([sign[1] for sign in what[3] if isinstance(sign, tuple) and sign[0] == "refer"])
            signs.extend([what[2]] if what[2] else [])
        if what[0] == "out":
            signs.extend(what[2])
        if what[0] in ("mark", "note"):
            signs.extend([what[2][0], what[3][0]])
        if what[0] == "line" and what[3]:
            lines.append((what[3], what[2]))
        if what[0] == "strike":
            lines.append((what[2], None))
        if what[0] == "cell":
            lines.extend([(what[2], "row"), (what[3], "column")])
        return (all(self.part_there(ground, part) for part in parts)
                and all(self.sign_there(ground, what[1], sign) for sign in signs)
                and all(self.line_there(ground, what[1], line, way) for line, way in lines))

    def let_to_do(self, ground, hand, what):
        if what[0] in ("cut", "put", "out", "mark", "line", "strike", "cell", "part"):
            return self.leave(ground, hand, what[1], "write")
        if what[0] == "move":
            return self.leave(ground, hand, what[1], "write") and self.leave(ground, hand, what[2], "write")
        if what[0] == "note":
            return self.leave(ground, hand, what[1], "note")
        if what[0] == "leave":
            return self.leave(ground, hand, what[1], "give")
        if what[0] in ("pour", "bring"):
            return self.leave(ground, hand, MAIN, "write")
        return True

    def good(self, name):
        return self.once(("good", name), lambda: self.judged(name))

    def judged(self, name):
        hand, number, heard, branch, what = self.by_name[name]
        past = self.past(name)
        if branch is not None and (self.good_word_about(branch, past) or what[0] in ("leave", "bring", "drop", "pour")):
            return False
        if what[0] == "nothing":
            return True
        if what[0] in ("back", "again"):
            named = (hand, what[1])
            if self.what(named)[0] in WORDS + ("nothing", "pour"):
                return False
            return self.by_name[named][3] == branch and not self.known(named, past)
        ground = self.ground(name)
        if not self.all_there(ground, what) or not self.let_to_do(ground, hand, what):
            return False
        if what[0] in ("bring", "drop"):
            return self.good_word_about((hand, what[1]), past) is None
        return what[0] != "pour" or self.pour_rows(hand, what[1], past)

    # 29, 30

    def counts_known(self, counts, past):
        names = [(hand, number) for hand, count in zip(self.roll, counts) for number in range(1, count + 1)]
        return all(name in past and self.known(name, past) for name in names)

    def pour_rows(self, hand, counts, past):
        within = self.first_so_many(counts)
        wanted = [(one, number) for one, count in zip(self.roll, counts) for number in range(1, count + 1)]
        if sorted(within) != sorted(wanted) or not within or not within <= past:
            return False
        if not all(self.past(name) <= within for name in within):
            return False
        for name in past - within:
            if not within <= self.past(name):
                return False
            what = self.what(name)
            if what[0] in ("back", "again") and self.good(name) and (name[0], what[1]) in within:
                return False
        for one in self.roll:
            pasts = [self.past(name) for name in past if name[0] == one] + ([past] if one == hand else [])
            if not any(self.counts_known(counts, its) for its in pasts):
                return False
        branches = {self.by_name[name][3] for name in within} - {None}
        return all(self.good_word_about(branch, within) for branch in branches)

    def all_counts(self, names):
        """All counts of whole sets within a past."""
        most = [max([name[1] for name in names if name[0] == hand], default=0) for hand in self.roll]
        some = [()]
        for top in most:
            some = [counts + (count,) for counts in some for count in range(top + 1)]
        return [counts for counts in some
                if all(self.past(name) <= self.first_so_many(counts) for name in self.first_so_many(counts))]

    def greatest_pour(self, hand):
        good = [counts for counts in self.all_counts(self.all) if self.pour_rows(hand, counts, self.all)]
        if not good:
            return None
        greatest = tuple(max(column) for column in zip(*good))
        assert greatest in good, (good, greatest)
        return greatest

    # 44

    def facts(self, branch=None):
        counting = self.counting(self.all, branch)
        good = [name for name in self.by_keys(self.all) if self.good(name)]
        outs = [sign for name in self.of_kind(counting, "out") for sign in self.what(name)[2]]
        strikes = [self.what(name)[2] for name in self.of_kind(counting, "strike")]
        facts = dict((key, []) for key in "births places cuts signs marks notes lines cells leaves".split())
        for name in good:
            what, key, counts = self.what(name), self.key(name), name in counting
            if what[0] == "part":
                facts["births"].append((name, what[1]))
            if what[0] == "part" and counts:
                facts["places"].append((name, what[1], name, key))
            if what[0] == "move" and counts and what[1] in counting:
                facts["places"].append((what[1], what[2], name, key))
            if what[0] == "cut" and counts:
                facts["cuts"].append((what[1], name))
            if what[0] == "put":
                for i, sign in enumerate(what[3]):
                    behind = what[2] if i == 0 else name + (i - 1,)
                    lives = counts and name + (i,) not in outs
                    facts["signs"].append((what[1], name + (i,), behind, key + (i,), sign, lives))
            if what[0] in ("mark", "note") and counts:
                facts[what[0] + "s"].append(what[1:] + (name, key))
            if what[0] == "line":
                facts["lines"].append((what[1], what[2], name, what[3], key, counts and name not in strikes))
            if what[0] == "cell" and counts:
                facts["cells"].append(what[1:] + (key,))
            if what[0] == "leave" and counts:
                facts["leaves"].append(what[1:] + (key,))
        return facts


# 17, 18, of facts

def places_told(facts):
    told = {}
    for part in {place[0] for place in facts["places"]}:
        told[part] = max([place for place in facts["places"] if place[0] == part], key=lambda place: place[3])
    return told


def round_of(told, part):
    """The parts of the round that the part is in, if it is in one."""
    way = [part]
    while way[-1] in told and len(way) <= len(told) + 1:
        way.append(told[way[-1]][1])
    return set(way[:way.index(part, 1)]) if part in way[1:] else set()


def stands_in(facts):
    told = places_told(facts)
    stands = {}
    for part in told:
        turned = round_of(told, part)
        instead = turned and max(turned, key=lambda one: told[one][3]) == part
        stands[part] = MAIN if instead else told[part][1]

    def nowhere(part):
        return part != MAIN and (part not in stands or nowhere(stands[part]))
    return dict((part, None if nowhere(part) else outer) for part, outer in stands.items())


def is_shown(facts, part):
    if part == MAIN:
        return True
    stands = stands_in(facts)
    if stands.get(part) is None or part in [cut[0] for cut in facts["cuts"]]:
        return False
    return is_shown(facts, stands[part])


def inner_parts(facts, part):
    told, stands = places_told(facts), stands_in(facts)
    inner = [one for one in stands if stands[one] == part and is_shown(facts, one)]
    return sorted(inner, key=lambda one: told[one][3])


# 9, 19 to 22

def order(places, behind=None):
    row = []
    for place in sorted([place for place in places if place[1] == behind], key=lambda place: place[2], reverse=True):
        row.extend([place[0]] + order(places, place[0]))
    return row


def row_of(facts, part):
    return order([fact[1:4] for fact in facts["signs"] if fact[0] == part])


def living(facts, part):
    alive = [fact[1] for fact in facts["signs"] if fact[5]]
    return [name for name in row_of(facts, part) if name in alive]


def covers(row, begin, end, name):
    """20, of a sign of the row, by its place."""
    at = row.index(name)
    if begin is None:
        return False
    begins = at >= row.index(begin[0]) if begin[1] == "ahead" else at > row.index(begin[0])
    if end is None:
        return begins
    return begins and (at <= row.index(end[0]) if end[1] == "behind" else at < row.index(end[0]))


def telling(facts, part, name):
    """The marks that tell the values of a sign, those of None too, as facts."""
    row = row_of(facts, part)
    over = [mark for mark in facts["marks"] if mark[0] == part and covers(row, mark[1], mark[2], name)]
    kinds = sorted({mark[3] for mark in over})
    return [max([mark for mark in over if mark[3] == kind], key=lambda mark: mark[6]) for kind in kinds]


def marks_of(facts, part, name):
    return [(mark[3], mark[4]) for mark in telling(facts, part, name) if mark[4] is not None]


def telling_marks(facts, part, name):
    return [(mark[3], mark[5]) for mark in telling(facts, part, name) if mark[4] is not None]


def notes_of(facts, part):
    row, alive = row_of(facts, part), living(facts, part)
    notes = []
    for note in sorted([note for note in facts["notes"] if note[0] == part], key=lambda note: note[5]):
        over = [name for name in alive if covers(row, note[1], note[2], name)]
        notes.append((note[4], note[3], over[0] if over else None))
    return notes


def lines_of(facts, part, way):
    lines = [fact for fact in facts["lines"] if fact[:2] == (part, way)]
    alive = [fact[2] for fact in lines if fact[5]]
    return [name for name in order([fact[2:5] for fact in lines]) if name in alive]


def table_of(facts, part):
    rows, columns = lines_of(facts, part, "row"), lines_of(facts, part, "column")
    words = []
    for row in rows:
        words.append([])
        for column in columns:
            cells = [cell for cell in facts["cells"] if cell[:3] == (part, row, column)]
            words[-1].append(max(cells, key=lambda cell: cell[4])[3] if cells else "")
    return (rows, columns, words)


# 23 to 25

def may_read(facts, roll, hand, part):
    if hand is None or hand == roll[0]:
        return True
    about = [leave for leave in facts["leaves"] if leave[:3] == (part, hand, "read")]
    if about:
        return max(about, key=lambda leave: leave[4])[3]
    return part != MAIN and may_read(facts, roll, hand, dict(facts["births"])[part])


def numbers(facts, roll, hand, part=MAIN, number=""):
    """Tuples (part, number, whether it is open) of the entries."""
    is_open = may_read(facts, roll, hand, part)
    told = [(part, number, is_open)]
    if is_open:
        for n, inner in enumerate(inner_parts(facts, part), start=1):
            told.extend(numbers(facts, roll, hand, inner, f"{number}.{n}" if number else str(n)))
    return told


def text_of(sign, number_of):
    if isinstance(sign, str):
        return sign
    if sign[0] == "picture":
        return "*" + sign[1]
    return "#" + number_of.get(sign[1], "?")


def document(facts, roll, hand=None):
    told = numbers(facts, roll, hand)
    number_of = dict((part, number) for part, number, is_open in told)
    sign_of = dict((fact[1], fact[4]) for fact in facts["signs"])
    entries = []
    for part, number, is_open in told:
        if is_open:
            row = [(name, text_of(sign_of[name], number_of), marks_of(facts, part, name)) for name in living(facts, part)]
            entries.append((number, part, row, notes_of(facts, part), table_of(facts, part)))
        else:
            entries.append((number, part, None, None, None))
    return entries


def stretches(row):
    """Tuples (kind, from, to, value), sorted."""
    found = []
    for at, sign in enumerate(row):
        for kind, value in sign[2]:
            if at > 0 and (kind, value) in row[at - 1][2]:
                continue
            to = at
            while to + 1 < len(row) and (kind, value) in row[to + 1][2]:
                to += 1
            found.append((kind, at, to, value))
    return sorted(found)


def shown(entries):
    rows = []
    for number, part, row, notes, table in entries:
        rows.append("part " + (number or "."))
        if row is None:
            rows.append("closed")
            continue
        if row:
            rows.append("text " + "".join(sign[1] for sign in row))
        rows.extend(f"mark {kind} {value} {at} {to}" for kind, at, to, value in stretches(row))
        names = [sign[0] for sign in row]
        rows.extend(f"note {note[1]} {'loose' if note[2] is None else names.index(note[2])}" for note in notes)
        if table[1]:
            rows.extend("cells " + " ".join(word or "-" for word in words) for words in table[2])
    return "\n".join(rows)


# 26

def is_so(reading, facts, sign, paper):
    """Whether a paper of the told form is right for a sign, told as a fact of signs."""
    counting = reading.counting(reading.all)
    outs = [name for name in reading.of_kind(counting, "out") if sign[1] in reading.what(name)[2]]
    if paper[0] == "unput":
        return sign[1][:2] not in counting
    if paper[0] == "out":
        return paper[1] in outs
    told, part, passed = places_told(facts), sign[0], []
    for step in paper[1]:
        if part not in told or told[part][2] != step or part in passed:
            return False
        turned = round_of(told, part)
        is_turned = turned and max(turned, key=lambda one: told[one][3]) == part
        if is_turned and (paper[0] != "shown" or len(passed) + 1 < len(paper[1])):
            return False
        passed.append(part)
        part = MAIN if is_turned else told[part][1]
    if paper[0] == "cut":
        return paper[2] in counting and reading.what(paper[2]) == ("cut", part)
    if paper[0] == "lost":
        return part != MAIN and part not in counting
    cut = [name for name in reading.of_kind(counting, "cut") if reading.what(name)[1] in passed]
    lives = sign[1][:2] in counting and not outs
    return part == MAIN and not cut and lives and paper[2] == telling_marks(facts, sign[0], sign[1])
