"""What several test files need: words, machines, sets told without the program, and what is asked of refusals."""

import functools
import itertools
import random

from roomalgebra import errors
from roomalgebra import patterns
from roomalgebra.machines import made, takes
from roomalgebra.reader import read

REFUSALS = ["NoLetters", "NoWord", "NoNumber", "NoRoom", "NoMachine", "OtherLetters", "TooMany", "NoPattern",
            "TooGreat", "NoKind"]
ALONE = {"outside": patterns.Outside, "turned": patterns.Turned, "again": patterns.Again}
PAIRS = {"either": patterns.Either, "less": patterns.Less, "both": patterns.Both, "then": patterns.Then}
LEAVES = {"never": patterns.Never, "empty": patterns.Empty, "sign": patterns.Sign, "any": patterns.AnySign}
NO_LETTERS = ["", "abcd", "aa", "aba", "abb", "aab", "A", "aB", "a1", " ", "a ", "ab-", "a" * 1000, "abcdefghijklm"]


def words_up_to(letters, longest):
    for length in range(longest + 1):
        for signs in itertools.product(letters, repeat=length):
            yield "".join(signs)


def walked(ways, letters, room, word):
    for sign in word:
        room = ways[room][letters.find(sign)]
    return room


def circle(letters, rooms):
    ways = [[(room + step + 1) % rooms for step in range(len(letters))] for room in range(rooms)]
    return made(letters, ways, [room % 2 == 0 for room in range(rooms)])


def in_a_row(letters, rooms):
    """Each letter leads one room on; the last room is never left, and it alone is marked."""
    ways = [[min(room + 1, rooms - 1)] * len(letters) for room in range(rooms)]
    return made(letters, ways, [room == rooms - 1 for room in range(rooms)])


def some_machine(chance, letters, rooms):
    ways = [[chance.randrange(rooms) for letter in letters] for room in range(rooms)]
    return made(letters, ways, [chance.randrange(2) == 0 for room in range(rooms)])


def some_machines(seed, many, letters, most_rooms):
    chance = random.Random(seed)
    return [some_machine(chance, letters, chance.randrange(most_rooms) + 1) for number in range(many)]


def every_machine_of_two_rooms(letters):
    """Each machine with two rooms over two letters."""
    for ways in itertools.product([0, 1], repeat=4):
        for marks in itertools.product([True, False], repeat=2):
            yield made(letters, [ways[:2], ways[2:]], marks)


def of(letters, text):
    """The least machine of the pattern that is written so."""
    return read(letters, text).machine(letters)


def blown_up(machine, seed):
    """A machine with the same set: each room stands there three times, shuffled, and one lies apart from all."""
    letters, ways, marks = machine
    chance = random.Random(seed)
    many = len(ways)
    behind_0 = list(range(1, 3 * many))
    chance.shuffle(behind_0)
    place = [0] + behind_0
    new_ways = [[0] * len(letters) for room in range(3 * many)]
    new_marks = [False] * (3 * many)
    for old in range(3 * many):
        new_ways[place[old]] = [place[goal + many * chance.randrange(3)] for goal in ways[old % many]]
        new_marks[place[old]] = marks[old % many]
    return made(letters, new_ways + [[3 * many] * len(letters)], new_marks + [True])


def loosened(machine, seed, rooms=8):
    """A machine with the same set and that many rooms: copies of rooms are put in, and all but room 0 shuffled."""
    letters, ways, marks = machine
    chance = random.Random(seed)
    more = list(range(1, len(ways))) + [chance.randrange(len(ways)) for copy in range(rooms - len(ways))]
    chance.shuffle(more)
    olds = [0] + more
    copies = [[room for room, old in enumerate(olds) if old == goal] for goal in range(len(ways))]
    new_ways = [[chance.choice(copies[goal]) for goal in ways[old]] for old in olds]
    return made(letters, new_ways, [marks[old] for old in olds])


@functools.lru_cache(maxsize=None)
def set_of(machine):
    """The machine's set, as a question to be asked of words."""
    letters, ways, marks = machine
    return functools.lru_cache(maxsize=None)(lambda word: marks[walked(ways, letters, 0, word)])


def in_place(machine, one, two):
    """Whether the one word may be put in the place of the other, anywhere: by all words that could matter."""
    is_in = set_of(machine)
    around = list(words_up_to(machine[0], len(machine[1]) - 1))
    return all(is_in(ahead + one + behind) == is_in(ahead + two + behind) for ahead in around for behind in around)


def bar_words_fault(letters, words):
    """Tells what is wrong with words that stand in a bar, whatever the kind; None where nothing is."""
    for word in words:
        if type(word) is not str or word.strip(letters) or len(word) > 60:
            return f"{word!r} is no word over the letters, or too long"
    return None


def plain_fault(machine):
    """Tells why a machine is no least one, by all words that could matter; None where it is one."""
    letters, ways, marks = machine
    words = list(words_up_to(letters, len(ways) - 1))
    kinds = [type(machine), type(letters), type(ways), type(marks)]
    if kinds != [tuple, str, tuple, tuple] or any(type(row) is not tuple for row in ways):
        return "kinds"
    if any(type(goal) is not int for row in ways for goal in row) or any(type(mark) is not bool for mark in marks):
        return "kinds within"
    if len(ways) != len(marks) or any(len(row) != len(letters) for row in ways):
        return "lengths"
    behaviours = [tuple(marks[walked(ways, letters, room, word)] for word in words) for room in range(len(ways))]
    if len(set(behaviours)) != len(ways):
        return "alike rooms"
    met = list(dict.fromkeys(walked(ways, letters, 0, word) for word in words))
    if met != list(range(len(ways))):
        return "the order of the rooms"
    return None


def cuts(word):
    return [(word[:at], word[at:]) for at in range(len(word) + 1)]


def in_again(is_in, word):
    """Whether the word can be cut into pieces that are in."""
    ends = [True] + [False] * len(word)
    for end in range(1, len(word) + 1):
        ends[end] = any(ends[begin] and is_in(word[begin:end]) for begin in range(end))
    return ends[-1]


def joined_set(name, *machines):
    """The set of a join, as a question to be asked of words, by the words of the document alone."""
    def one(word):
        return takes(machines[0], word)

    def two(word):
        return takes(machines[1], word)

    return {
        "either": lambda word: one(word) or two(word),
        "both": lambda word: one(word) and two(word),
        "less": lambda word: one(word) and not two(word),
        "outside": lambda word: not one(word),
        "then": lambda word: any(one(ahead) and two(behind) for ahead, behind in cuts(word)),
        "again": lambda word: in_again(one, word),
        "turned": lambda word: one(word[::-1]),
    }[name]


@functools.lru_cache(maxsize=None)
def in_shape(shape, letters, word):
    """Whether a word is in the set of the pattern with that shape, by the words of the document alone."""
    kind = shape[0]
    if kind in ("never", "empty"):
        return kind == "empty" and word == ""
    if kind in ("sign", "any"):
        return len(word) == 1 and (kind == "any" or word == shape[1])
    if kind == "outside":
        return not in_shape(shape[1], letters, word)
    if kind == "turned":
        return in_shape(shape[1], letters, word[::-1])
    if kind == "again":
        return in_again(lambda piece: in_shape(shape[1], letters, piece), word)
    if kind == "then":
        return any(in_shape(shape[1], letters, ahead) and in_shape(shape[2], letters, behind)
                   for ahead, behind in cuts(word))
    left = in_shape(shape[1], letters, word)
    right = in_shape(shape[2], letters, word)
    return {"either": left or right, "both": left and right, "less": left and not right}[kind]


def parts_of(shape):
    parts = [shape]
    if shape[0] != "sign":
        for inner in shape[1:]:
            parts.extend(parts_of(inner))
    return parts


def pattern_from(shape):
    if shape[0] in LEAVES:
        return LEAVES[shape[0]](*shape[1:])
    return {**ALONE, **PAIRS}[shape[0]](*[pattern_from(inner) for inner in shape[1:]])


def some_shape(chance, letters, size, kinds=None):
    """A shape with just size parts, of the kinds told, or else of all."""
    some = kinds or sorted(ALONE) + sorted(PAIRS)
    if size == 1:
        pieces = [("any",)] * 2 if kinds else [("never",), ("empty",), ("any",)]
        return chance.choice(pieces + [("sign", letter) for letter in letters] * 2)
    kind = chance.choice([kind for kind in some if kind in ALONE or size > 2])
    if kind in ALONE:
        return (kind, some_shape(chance, letters, size - 1, kinds))
    left = chance.randrange(1, size - 1)
    ahead = some_shape(chance, letters, left, kinds)
    return (kind, ahead, some_shape(chance, letters, size - 1 - left, kinds))


@functools.lru_cache(maxsize=None)
def shape_read(letters, text, level=1):
    """The shape of what a text is read as, or None: the rules of point 18 from the weakest sign to the strongest."""
    between = {1: {"|": "either", "-": "less"}, 2: {"&": "both"}}
    if text == "":
        return None
    if level in between:
        for at in reversed(range(len(text))):
            if text[at] in between[level]:
                left = shape_read(letters, text[:at], level)
                right = shape_read(letters, text[at + 1:], level + 1)
                if left and right:
                    return (between[level][text[at]], left, right)
        return shape_read(letters, text, level + 1)
    if level == 3:
        for at in reversed(range(1, len(text))):
            left = shape_read(letters, text[:at], 3)
            right = shape_read(letters, text[at:], 4)
            if left and right:
                return ("then", left, right)
        return shape_read(letters, text, 4)
    if level == 4 and text[0] in "!<":
        inner = shape_read(letters, text[1:], 4)
        return inner and ({"!": "outside", "<": "turned"}[text[0]], inner)
    if text[-1] == "*":
        inner = shape_read(letters, text[:-1], 5)
        return inner and ("again", inner)
    if text[0] == "(" and text[-1] == ")":
        return shape_read(letters, text[1:-1], 1)
    leaves = {"0": ("never",), "1": ("empty",), ".": ("any",)}
    if len(text) == 1 and text in letters:
        return ("sign", text)
    return leaves.get(text)


def refusal_of(call):
    try:
        call()
    except errors.RoomError as refusal:
        return refusal
    return None


def classes_of(refusal):
    return [name for name in REFUSALS if isinstance(refusal, getattr(errors, name))]


def too_many_fault(refusal, letters, is_in):
    """Tells what is wrong with the words and tails of a TooMany for that set; None where nothing is."""
    if type(refusal.words) is not list or type(refusal.tails) is not list:
        return "kinds"
    if len(refusal.words) != 9 or any(type(word) is not str for word in refusal.words):
        return "no nine words"
    if [tail[:2] for tail in refusal.tails] != list(itertools.combinations(range(9), 2)):
        return "the order of the tails"
    if any(type(tail) is not tuple or len(tail) != 3 or type(tail[2]) is not str for tail in refusal.tails):
        return "kinds of the tails"
    texts = refusal.words + [tail[2] for tail in refusal.tails]
    if any(len(text) > 3000 or text.strip(letters) for text in texts):
        return "words over other letters, or too long"
    for i, j, tail in refusal.tails:
        if is_in(refusal.words[i] + tail) == is_in(refusal.words[j] + tail):
            return f"{tail!r} does not part {i} and {j}"
    return None


class Verdicts:
    """What is asked of a verdict whatever the kind. The class under it tells, by kind, how it is told and what a paper
    says (tell, says), and of each kind how papers and bars look and the paper as told without the program."""

    def verdict(self, kind, machine, truth):
        told = self.tell[kind](machine)
        self.assertEqual((type(told), len(told), told[0]), (tuple, 2, truth), (kind, machine, told))
        return told[1]

    def of_the_kind(self, kind, machine):
        """The paper, which must say of each word up to some length what the machine does."""
        paper = self.verdict(kind, machine, True)
        self.paper_looks_right(kind, machine, paper)
        for word in words_up_to(machine[0], {1: 30, 2: 8, 3: 5}[len(machine[0])]):
            self.assertIs(self.says[kind](machine[0], paper, word), takes(machine, word), (kind, machine, word))
        return paper

    def not_of_the_kind(self, kind, machine):
        """The bar, whose words must be in and not in as they should, however often the piece is written."""
        bar = self.verdict(kind, machine, False)
        self.assertIs(type(bar), tuple)
        self.assertIs(bar_words_fault(machine[0], [word for word in bar if word not in ("swap", "stay")]), None)
        self.bar_looks_right(kind, machine, bar)
        return bar

    def right(self, kind, machine):
        paper = self.by_hand(kind, machine)
        if paper is None:
            self.not_of_the_kind(kind, machine)
            return False
        self.assertEqual(self.of_the_kind(kind, machine), paper, (kind, machine))
        return True

    def some_of_both(self, kind, machines):
        told = [self.right(kind, machine) for machine in machines]
        self.assertEqual(sorted(set(told)), [False, True])

    def right_either_way(self, kind, machine):
        if self.tell[kind](machine)[0]:
            return self.of_the_kind(kind, machine)
        return self.not_of_the_kind(kind, machine)


class KindsAlike:
    """Tests that are the same whatever the kind; the class under it tells some papers over ba and some samples."""

    def test_machines_that_are_not_least(self):
        for number, (letters, machine) in enumerate(self.samples):
            loose = loosened(machine, number)
            for kind, tell in self.tell.items():
                self.assertIs(tell(loose)[0], tell(machine)[0])
                if tell(machine)[0]:
                    self.assertEqual(tell(loose), tell(machine))
                self.right_either_way(kind, loose)

    def test_a_set_is_of_a_kind_just_where_the_words_that_are_not_in_it_are(self):
        for letters, (own, ways, marks) in self.samples:
            other = made(letters, ways, [not mark for mark in marks])
            for kind, tell in self.tell.items():
                self.assertIs(tell(other)[0], tell((own, ways, marks))[0])

    def test_machines_of_eight_rooms_over_three_letters_in_good_time(self):
        chance = random.Random(83)
        for number in range(100):
            machine = some_machine(chance, "cab", 8)
            for kind in self.tell:
                self.right_either_way(kind, machine)

    def test_a_paper_that_is_handed_in_stays(self):
        for kind, paper in self.papers.items():
            kept = repr(paper)
            self.says[kind]("ba", paper, "bab")
            self.assertEqual(repr(paper), kept)

    def test_no_letters(self):
        for kind, paper in self.papers.items():
            for letters in NO_LETTERS:
                for word in ["", "a", "?"]:
                    refusal = refusal_of(lambda: self.says[kind](letters, paper, word))
                    self.assertEqual(classes_of(refusal), ["NoLetters"], (kind, letters, word))

    def test_no_word(self):
        for kind, paper in self.papers.items():
            for word in ["c", "abc", "A", " ", "ab ", "a" * 999 + "c"]:
                refusal = refusal_of(lambda: self.says[kind]("ba", paper, word))
                self.assertEqual(classes_of(refusal), ["NoWord"], (kind, word))
