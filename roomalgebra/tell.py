"""Of which of the seven kinds a machine's set is, and whether a word is in by a kind's paper alone."""

from roomalgebra.checks import need_letters, need_word
from roomalgebra.errors import NoKind
from roomalgebra.kinds import says_first, says_last, says_within, tell_first, tell_last, tell_within
from roomalgebra.onward import says_onward, tell_onward
from roomalgebra.plain import says_plain, tell_plain
from roomalgebra.tallies import says_counts, says_tally, tell_counts, tell_tally


def tell(kind, machine):
    ways = {
        "first": tell_first, "last": tell_last, "within": tell_within, "tally": tell_tally, "counts": tell_counts,
        "onward": tell_onward, "plain": tell_plain,
    }
    need_kind(ways, kind)
    return ways[kind](machine)


def says(kind, letters, paper, word):
    ways = {
        "first": says_first, "last": says_last, "within": says_within, "tally": says_tally, "counts": says_counts,
        "onward": says_onward, "plain": says_plain,
    }
    need_kind(ways, kind)
    need_letters(letters)
    need_word(letters, word)
    return ways[kind](letters, paper, word)


def need_kind(ways, kind):
    if kind not in ways:
        raise NoKind(f"{kind!r} is none of the seven kinds")
