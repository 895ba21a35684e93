"""What several test files need: words, machines, sets told without the program, and what is asked of refusals."""

import functools
import itertools
import random
import re

from roomalgebra import errors
from roomalgebra import patterns
from roomalgebra.least import least
from roomalgebra.machines import made, takes
from roomalgebra.reader import read
from roomalgebra.tell import says, tell

REFUSALS = ["NoLetters", "NoWord", "NoNumber", "NoRoom", "NoMachine", "OtherLetters", "TooMany", "NoPattern",
            "TooGreat", "NoKind"]
KINDS = ["first", "last", "within", "tally", "counts", "onward", "plain"]
ALONE = {"outside": patterns.Outside, "turned": patterns.Turned, "again": patterns.Again}
PAIRS = {"either": patterns.Either, "less": patterns.Less, "both": patterns.Both, "then": patterns.Then}
LEAVES = {"never": patterns.Never, "empty": patterns.Empty, "sign": patterns.Sign, "any": patterns.AnySign}
NO_LETTERS = ["", "abcd", "aa", "aba", "abb", "aab", "A", "aB", "a1", " ", "a ", "ab-", "a" * 1000, "abcdefghijklm"]
# Machines of just forty acts, and of just forty-one.
JUST_FORTY = [
    made("ba", [[1, 0], [2, 1], [3, 1], [0, 1]], [True, True, False, False]),
    made("ba", [[1, 5], [2, 5], [6, 5], [6, 2], [7, 0], [1, 5], [2, 6], [2, 2]], [True] + [False] * 7),
    made("cab", [[3, 0, 0], [2, 0, 1], [3, 1, 2], [1, 0, 3]], [False, True, False, False]),
    # a group: one letter counts on by one in five rooms, one doubles there, one changes two other rooms about
    made("cab", [[(room + 1) % 5, 2 * room % 5, room] for room in range(5)] + [[5, 5, 6], [6, 6, 5]], [True] * 7),
]
FORTY_ONE = [
    made("ba", [[2, 1], [3, 2], [2, 0], [0, 0]], [True, True, False, True]),
    made("ba", [[0, 0], [7, 1], [5, 0], [3, 1], [0, 4], [5, 3], [0, 3], [7, 2]], [True] * 8),
    made("cab", [[0, 4, 1], [1, 2, 4], [2, 2, 1], [4, 2, 0], [4, 2, 0]], [True, True, False, False, False]),
    made("cab", [[1, 2, 0], [6, 6, 0], [6, 4, 6], [1, 2, 2], [1, 4, 0], [1, 1, 1], [1, 6, 0]], [False] * 7),
]
# All acts on eight rooms: a ring, two rooms changed about, one room led into another.
ALL_ACTS = made("abc", [[(room + 1) % 8, [1, 0, 2, 3, 4, 5, 6, 7][room], [0, 0, 2, 3, 4, 5, 6, 7][room]]
                        for room in range(8)], [room == 0 for room in range(8)])


def words_up_to(letters, longest):
    for length in range(longest + 1):
        for signs in itertools.product(letters, repeat=length):
            yield "".join(signs)


def walked(ways, letters, room, word):
    for sign in word:
        room = ways[room][letters.find(sign)]
    return room


def word_key(letters):
    """What puts words into their order."""
    return lambda word: (len(word), [letters.index(sign) for sign in word])


def act_by_hand(machine, word):
    letters, ways, marks = machine
    return tuple(walked(ways, letters, room, word) for room in range(len(ways)))


@functools.lru_cache(maxsize=None)
def acts_by_hand(machine):
    """Word by word, in their order, until words of some length do nothing new: then longer ones do not either."""
    told = {}
    for length in itertools.count():
        known = len(told)
        for signs in itertools.product(machine[0], repeat=length):
            told.setdefault(act_by_hand(machine, "".join(signs)), "".join(signs))
        if len(told) == known:
            return [(word, act) for act, word in told.items()]


def circle(letters, rooms):
    ways = [[(room + step + 1) % rooms for step in range(len(letters))] for room in range(rooms)]
    return made(letters, ways, [room % 2 == 0 for room in range(rooms)])


def in_a_row(letters, rooms):
    """Each letter leads one room on; the last room is never left, and it alone is marked."""
    ways = [[min(room + 1, rooms - 1)] * len(letters) for room in range(rooms)]
    return made(letters, ways, [room == rooms - 1 for room in range(rooms)])


def some_machine(chance, letters, rooms):
    ways = [[chance.randrange(rooms) for letter in letters] for room in range(rooms)]
    return made(letters, ways, [chance.randrange(2) == 0 for room in range(rooms)])


def some_machines(seed, many, letters, most_rooms):
    chance = random.Random(seed)
    return [some_machine(chance, letters, chance.randrange(most_rooms) + 1) for number in range(many)]


def every_machine_of_two_rooms(letters):
    """Each machine with two rooms over two letters."""
    for ways in itertools.product([0, 1], repeat=4):
        for marks in itertools.product([True, False], repeat=2):
            yield made(letters, [ways[:2], ways[2:]], marks)


def of(letters, text):
    """The least machine of the pattern that is written so."""
    return read(letters, text).machine(letters)


def blown_up(machine, seed):
    """A machine with the same set: each room stands there three times, shuffled, and one lies apart from all."""
    letters, ways, marks = machine
    chance = random.Random(seed)
    many = len(ways)
    behind_0 = list(range(1, 3 * many))
    chance.shuffle(behind_0)
    place = [0] + behind_0
    new_ways = [[0] * len(letters) for room in range(3 * many)]
    new_marks = [False] * (3 * many)
    for old in range(3 * many):
        new_ways[place[old]] = [place[goal + many * chance.randrange(3)] for goal in ways[old % many]]
        new_marks[place[old]] = marks[old % many]
    return made(letters, new_ways + [[3 * many] * len(letters)], new_marks + [True])


def loosened(machine, seed, rooms=8):
    """A machine with the same set and that many rooms: copies of rooms are put in, and all but room 0 shuffled."""
    letters, ways, marks = machine
    chance = random.Random(seed)
    more = list(range(1, len(ways))) + [chance.randrange(len(ways)) for copy in range(rooms - len(ways))]
    chance.shuffle(more)
    olds = [0] + more
    copies = [[room for room, old in enumerate(olds) if old == goal] for goal in range(len(ways))]
    new_ways = [[chance.choice(copies[goal]) for goal in ways[old]] for old in olds]
    return made(letters, new_ways, [marks[old] for old in olds])


@functools.lru_cache(maxsize=None)
def set_of(machine):
    """The machine's set, as a question to be asked of words."""
    letters, ways, marks = machine
    return functools.lru_cache(maxsize=None)(lambda word: marks[walked(ways, letters, 0, word)])


def in_place(machine, one, two):
    """Whether the one word may be put in the place of the other, anywhere: by all words that could matter."""
    is_in = set_of(machine)
    around = list(words_up_to(machine[0], len(machine[1]) - 1))
    return all(is_in(ahead + one + behind) == is_in(ahead + two + behind) for ahead in around for behind in around)


def plain_fault(machine):
    """Tells why a machine is no least one, by all words that could matter; None where it is one."""
    letters, ways, marks = machine
    words = list(words_up_to(letters, len(ways) - 1))
    kinds = [type(machine), type(letters), type(ways), type(marks)]
    if kinds != [tuple, str, tuple, tuple] or any(type(row) is not tuple for row in ways):
        return "kinds"
    if any(type(goal) is not int for row in ways for goal in row) or any(type(mark) is not bool for mark in marks):
        return "kinds within"
    if len(ways) != len(marks) or any(len(row) != len(letters) for row in ways):
        return "lengths"
    behaviours = [tuple(marks[walked(ways, letters, room, word)] for word in words) for room in range(len(ways))]
    if len(set(behaviours)) != len(ways):
        return "alike rooms"
    met = list(dict.fromkeys(walked(ways, letters, 0, word) for word in words))
    if met != list(range(len(ways))):
        return "the order of the rooms"
    return None


def cuts(word):
    return [(word[:at], word[at:]) for at in range(len(word) + 1)]


def in_again(is_in, word):
    """Whether the word can be cut into pieces that are in."""
    ends = [True] + [False] * len(word)
    for end in range(1, len(word) + 1):
        ends[end] = any(ends[begin] and is_in(word[begin:end]) for begin in range(end))
    return ends[-1]


def joined_set(name, *machines):
    """The set of a join, as a question to be asked of words, by the words of the document alone."""
    def one(word):
        return takes(machines[0], word)

    def two(word):
        return takes(machines[1], word)

    return {
        "either": lambda word: one(word) or two(word),
        "both": lambda word: one(word) and two(word),
        "less": lambda word: one(word) and not two(word),
        "outside": lambda word: not one(word),
        "then": lambda word: any(one(ahead) and two(behind) for ahead, behind in cuts(word)),
        "again": lambda word: in_again(one, word),
        "turned": lambda word: one(word[::-1]),
    }[name]


@functools.lru_cache(maxsize=None)
def in_shape(shape, letters, word):
    """Whether a word is in the set of the pattern with that shape, by the words of the document alone."""
    kind = shape[0]
    if kind in ("never", "empty"):
        return kind == "empty" and word == ""
    if kind in ("sign", "any"):
        return len(word) == 1 and (kind == "any" or word == shape[1])
    if kind == "outside":
        return not in_shape(shape[1], letters, word)
    if kind == "turned":
        return in_shape(shape[1], letters, word[::-1])
    if kind == "again":
        return in_again(lambda piece: in_shape(shape[1], letters, piece), word)
    if kind == "then":
        return any(in_shape(shape[1], letters, ahead) and in_shape(shape[2], letters, behind)
                   for ahead, behind in cuts(word))
    left = in_shape(shape[1], letters, word)
    right = in_shape(shape[2], letters, word)
    return {"either": left or right, "both": left and right, "less": left and not right}[kind]


def parts_of(shape):
    parts = [shape]
    if shape[0] != "sign":
        for inner in shape[1:]:
            parts.extend(parts_of(inner))
    return parts


def pattern_from(shape):
    if shape[0] in LEAVES:
        return LEAVES[shape[0]](*shape[1:])
    return {**ALONE, **PAIRS}[shape[0]](*[pattern_from(inner) for inner in shape[1:]])


def some_shape(chance, letters, size, kinds=None):
    """A shape with just size parts, of the kinds told, or else of all."""
    some = kinds or sorted(ALONE) + sorted(PAIRS)
    if size == 1:
        pieces = [("any",)] * 2 if kinds else [("never",), ("empty",), ("any",)]
        return chance.choice(pieces + [("sign", letter) for letter in letters] * 2)
    kind = chance.choice([kind for kind in some if kind in ALONE or size > 2])
    if kind in ALONE:
        return (kind, some_shape(chance, letters, size - 1, kinds))
    left = chance.randrange(1, size - 1)
    ahead = some_shape(chance, letters, left, kinds)
    return (kind, ahead, some_shape(chance, letters, size - 1 - left, kinds))


@functools.lru_cache(maxsize=None)
def shape_read(letters, text, level=1):
    """The shape of what a text is read as, or None: the rules of point 18 from the weakest sign to the strongest."""
    between = {1: {"|": "either", "-": "less"}, 2: {"&": "both"}}
    if text == "":
        return None
    if level in between:
        for at in reversed(range(len(text))):
            if text[at] in between[level]:
                left = shape_read(letters, text[:at], level)
                right = shape_read(letters, text[at + 1:], level + 1)
                if left and right:
                    return (between[level][text[at]], left, right)
        return shape_read(letters, text, level + 1)
    if level == 3:
        for at in reversed(range(1, len(text))):
            left = shape_read(letters, text[:at], 3)
            right = shape_read(letters, text[at:], 4)
            if left and right:
                return ("then", left, right)
        return shape_read(letters, text, 4)
    if level == 4 and text[0] in "!<":
        inner = shape_read(letters, text[1:], 4)
        return inner and ({"!": "outside", "<": "turned"}[text[0]], inner)
    if text[-1] == "*":
        inner = shape_read(letters, text[:-1], 5)
        return inner and ("again", inner)
    if text[0] == "(" and text[-1] == ")":
        return shape_read(letters, text[1:-1], 1)
    leaves = {"0": ("never",), "1": ("empty",), ".": ("any",)}
    if len(text) == 1 and text in letters:
        return ("sign", text)
    return leaves.get(text)


def refusal_of(call):
    try:
        call()
    except errors.RoomError as refusal:
        return refusal
    return None


def classes_of(refusal):
    return [name for name in REFUSALS if isinstance(refusal, getattr(errors, name))]


def too_many_fault(refusal, letters, is_in):
    """Tells what is wrong with the words and tails of a TooMany for that set; None where nothing is."""
    if type(refusal.words) is not list or type(refusal.tails) is not list:
        return "kinds"
    if len(refusal.words) != 9 or any(type(word) is not str for word in refusal.words):
        return "no nine words"
    if [tail[:2] for tail in refusal.tails] != list(itertools.combinations(range(9), 2)):
        return "the order of the tails"
    if any(type(tail) is not tuple or len(tail) != 3 or type(tail[2]) is not str for tail in refusal.tails):
        return "kinds of the tails"
    texts = refusal.words + [tail[2] for tail in refusal.tails]
    if any(len(text) > 3000 or text.strip(letters) for text in texts):
        return "words over other letters, or too long"
    for i, j, tail in refusal.tails:
        if is_in(refusal.words[i] + tail) == is_in(refusal.words[j] + tail):
            return f"{tail!r} does not part {i} and {j}"
    return None


def great_fault(refusal, machine):
    """Tells what is wrong with the words of a TooGreat for that machine; None where nothing is."""
    if classes_of(refusal) != ["TooGreat"]:
        return f"no TooGreat but {refusal!r}"
    if type(refusal.words) is not list or len(refusal.words) != 41:
        return "no forty-one words"
    for word in refusal.words:
        if type(word) is not str or word.strip(machine[0]) or len(word) > 100:
            return f"{word!r} is no word over the letters, or too long"
    if len(set(act_by_hand(machine, word) for word in refusal.words)) != 41:
        return "two words do the same act"
    return None


def first_reader(letters, paper):
    just, begins = paper
    return lambda word: word in just or any(word[:len(begin)] == begin for begin in begins)


def last_reader(letters, paper):
    from_behind = first_reader(letters, [[word[::-1] for word in words] for words in paper])
    return lambda word: from_behind(word[::-1])


def within_reader(letters, paper):
    return lambda word: "".join(sorted(set(word), key=letters.index)) in paper


def tally_reader(letters, paper):
    rows, table = paper

    def told(times, low, rest):
        return times if times < low else low + (times - low) % rest

    return lambda word: tuple(told(word.count(letter), *row) for letter, row in zip(letters, rows)) in table


def counts_reader(letters, paper):
    return tally_reader(letters, ([(0, rest) for rest in paper[0]], paper[1]))


def onward_reader(letters, paper):
    def written(stays, steps):
        pieces = [f"[{stay}]*" if stay else "" for stay in stays]
        return re.compile(pieces[0] + "".join(step + piece for step, piece in zip(steps, pieces[1:])))

    chains = [written(*chain) for chain in paper]
    return lambda word: any(chain.fullmatch(word) for chain in chains)


def plain_reader(letters, paper):
    rows, goals = paper

    @functools.lru_cache(maxsize=None)
    def is_of(number, word):
        begins, ends, never, shuts = rows[number]
        places = range(len(word))
        if begins is not None and not any(word[at] == a and is_of(i, word[:at]) for i, a in begins for at in places):
            return False
        if ends is not None and not any(word[at] == a and is_of(i, word[at + 1:]) for a, i in ends for at in places):
            return False
        if set(word) & set(never):
            return False
        return not any(word[at] == a and word[to] == b and is_of(i, word[at + 1:to])
                       for a, i, b in shuts for at, to in itertools.combinations(places, 2))

    return lambda word: any(is_of(goal, word) for goal in goals)


# For each kind what a paper says of words, by the words of the document alone.
READERS = {"first": first_reader, "last": last_reader, "within": within_reader, "tally": tally_reader,
           "counts": counts_reader, "onward": onward_reader, "plain": plain_reader}


def lists_in(told):
    """All lists that are told, the ones within others too."""
    inner = [found for part in told for found in lists_in(part)] if type(told) in (tuple, list) else []
    return inner + ([told] if type(told) is list else [])


def are_words(letters, words):
    return type(words) is list and all(type(word) is str and not word.strip(letters) for word in words)


def in_order(letters, words):
    """Whether these are words, each once, in their order."""
    return are_words(letters, words) and words == sorted(set(words), key=word_key(letters))


def is_lot(letters, lot):
    return type(lot) is str and lot == "".join(letter for letter in letters if letter in lot)


def are_numbers(numbers):
    return all(type(number) is int and number >= 0 for number in numbers)


def sides_look_right(letters, paper):
    return type(paper) is tuple and len(paper) == 2 and all(in_order(letters, words) for words in paper)


def within_looks_right(letters, paper):
    return in_order(letters, paper) and all(is_lot(letters, lot) for lot in paper)


def tally_looks_right(letters, paper):
    rows, table = paper
    if [type(paper), type(rows), type(table)] != [tuple, list, list] or len(rows) != len(letters):
        return False
    if not all(type(row) is tuple and len(row) == 2 and are_numbers(row) and row[1] > 0 for row in rows):
        return False
    if not all(type(cell) is tuple and len(cell) == len(letters) and are_numbers(cell) for cell in table):
        return False
    return table == sorted(set(table)) and all(number < low + rest for cell in table
                                               for number, (low, rest) in zip(cell, rows))


def counts_look_right(letters, paper):
    rests, table = paper
    if type(paper) is not tuple or type(rests) is not list:
        return False
    return tally_looks_right(letters, ([(0, rest) for rest in rests], table))


def onward_looks_right(letters, paper):
    if type(paper) is not list or any(type(chain) is not tuple or len(chain) != 2 for chain in paper):
        return False
    if not in_order(letters, [steps for stays, steps in paper]):
        return False
    return all(type(stays) is list and len(stays) == len(steps) + 1 and all(is_lot(letters, stay) for stay in stays)
               and not any(step in stay for step, stay in zip(steps, stays)) for stays, steps in paper)


def row_looks_right(letters, number, row):
    begins, ends, never, shuts = row
    if type(row) is not tuple or not is_lot(letters, never):
        return False
    for named, kinds in [(begins or [], (int, str)), (ends or [], (str, int)), (shuts, (str, int, str))]:
        if type(named) is not list or any(type(name) is not tuple for name in named):
            return False
        for name in named:
            if tuple(type(part) for part in name) != kinds or len(set(named)) != len(named):
                return False
            if not all(0 <= part < number if type(part) is int else len(part) == 1 and part in letters
                       for part in name):
                return False
    return type(begins) in (list, type(None)) and type(ends) in (list, type(None))


def plain_looks_right(letters, paper):
    rows, goals = paper
    if [type(paper), type(rows), type(goals)] != [tuple, list, list] or len(rows) > 40:
        return False
    if not are_numbers(goals) or goals != sorted(set(goals)) or any(goal >= len(rows) for goal in goals):
        return False
    return all(row_looks_right(letters, number, row) for number, row in enumerate(rows))


LOOKS = {"first": sides_look_right, "last": sides_look_right, "within": within_looks_right,
         "tally": tally_looks_right, "counts": counts_look_right, "onward": onward_looks_right,
         "plain": plain_looks_right}


def paper_fault(kind, letters, paper):
    """Tells what is wrong with the look of a paper; None where nothing is."""
    if not LOOKS[kind](letters, paper):
        return f"{paper!r} is not such a paper as the kind {kind} has"
    if len(set(id(found) for found in lists_in(paper))) != len(lists_in(paper)):
        return "the same list stands there twice"
    return None


def swapped(is_in, bar):
    return sorted(bar[1]) == sorted(bar[2]) and [is_in(word) for word in bar[1:]] == [True, False]


def is_right_bar(kind, is_in, bar, often):
    """Whether the words of a bar are in and not in as the kind asks, with the piece written so often."""
    if kind == "within":
        return set(bar[0]) == set(bar[1]) and [is_in(word) for word in bar] == [True, False]
    if kind in ("tally", "counts") and bar[0] == "swap":
        return len(bar) == 3 and swapped(is_in, bar)
    if kind == "counts":
        name, x, y, z = bar
        return y != "" and all(is_in(x + z) is not is_in(x + y * n + z) for n in often if n > 0)
    if kind == "first":
        x, y, z, t = bar
        return y != "" and all(is_in(x + y * n + z) and not is_in(x + y * n + t) for n in often)
    if kind == "last":
        x, t, y, z = bar
        return y != "" and all(is_in(x + y * n + z) and not is_in(t + y * n + z) for n in often)
    if kind == "onward":
        x, u, v, z = bar
        found = set((is_in(x + (u + v) * n + z), is_in(x + (u + v) * n + u + z)) for n in often)
        return u != "" and v != "" and len(found) == 1 and len(set(*found)) == 2
    x, y, z, many = bar
    found = set((is_in(x + y * (many * n) + z), is_in(x + y * (many * n + 1) + z)) for n in often if n > 0)
    return y != "" and type(many) is int and many >= 2 and len(found) == 1 and len(set(*found)) == 2


def bar_fault(kind, letters, is_in, bar, often=tuple(range(20)) + (40, 60)):
    """Tells what is wrong with a bar for that set, with its piece written so often; None where nothing is."""
    if type(bar) is not tuple:
        return "no tuple"
    names = 1 if kind in ("tally", "counts") else 0
    for word in bar[names:-1] if kind == "plain" else bar[names:]:
        if type(word) is not str or word.strip(letters) or len(word) > 60:
            return f"{word!r} is no word over the letters, or too long"
    if names and bar[0] != "swap" and (kind, bar[0]) != ("counts", "stay"):
        return f"{bar!r} has no such name as it should"
    if not is_right_bar(kind, is_in, bar, often):
        return f"{bar!r} is no bar of the kind {kind}"
    return None


class Verdicts:
    """What is asked of a verdict whatever the kind. The class under it tells how papers are told by hand."""

    def verdict(self, kind, machine, truth):
        told = tell(kind, machine)
        self.assertEqual((type(told), len(told), type(told[0]), told[0]), (tuple, 2, bool, truth),
                         (kind, machine, told))
        return told[1]

    def says_rightly(self, kind, letters, paper, is_in, longest):
        """Of each word up to some length it must be told by the paper alone whether it is in."""
        self.assertIs(paper_fault(kind, letters, paper), None)
        kept = repr(paper)
        reads = READERS[kind](letters, paper)
        for word in words_up_to(letters, longest):
            self.assertIs(says(kind, letters, paper, word), is_in(word), (kind, paper, word))
            self.assertIs(bool(reads(word)), is_in(word), (kind, paper, word))
        self.assertEqual(repr(paper), kept)

    def of_the_kind(self, kind, machine):
        """The paper, which must say of each word up to some length what the machine does."""
        paper = self.verdict(kind, machine, True)
        self.says_rightly(kind, machine[0], paper, set_of(machine), {1: 30, 2: 7, 3: 5}[len(machine[0])])
        return paper

    def not_of_the_kind(self, kind, machine):
        """The bar, whose words must be in and not in as they should, however often the piece is written."""
        bar = self.verdict(kind, machine, False)
        self.assertIs(bar_fault(kind, machine[0], set_of(machine), bar), None, (kind, machine))
        return bar

    def right(self, kind, machine):
        paper = self.by_hand(kind, machine)
        if paper is None:
            self.not_of_the_kind(kind, machine)
            return False
        self.assertEqual(self.of_the_kind(kind, machine), paper, (kind, machine))
        return True

    def some_of_both(self, kind, machines):
        told = [self.right(kind, machine) for machine in machines]
        self.assertEqual(sorted(set(told)), [False, True])

    def right_either_way(self, kind, machine):
        """The paper or the bar; None where it is refused, as may be for the kind plain alone."""
        refusal = refusal_of(lambda: tell(kind, machine))
        if refusal is not None:
            self.assertEqual((kind, great_fault(refusal, least(machine))), ("plain", None))
            return None
        if tell(kind, machine)[0]:
            return self.of_the_kind(kind, machine)
        return self.not_of_the_kind(kind, machine)
