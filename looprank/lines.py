"""Lines: which there are, of what sorts the words behind their first word are, and which are refused as no lines."""

from looprank.errors import NoLine
from looprank.kinds import all_kinds

SMALL_LETTERS = "abcdefghijklmnopqrstuvwxyz"
MOST_SIGNS = 8
WAYS = ("up", "from")
JOINTS = ("both", "either", "less", "unlike", "nor")
# A machine and a kind may have blanks in them, so each of these is all that is left of its line.
LONG_SORTS = ("machine", "kind")
FORMS = {
    "keep": ("name", "machine"),
    "fraction": ("name", "way", "number", "number", "number"),
    "opposite": ("name", "old"),
    "trim": ("name", "old"),
    "lowest": ("name", "old"),
    "small": ("name", "old"),
    "show": ("old",),
    "lets": ("old", "word"),
    "walk": ("old", "word"),
    "kinds": ("old",),
    "why": ("old", "kind"),
    "part": ("old", "old"),
    "within": ("old", "old"),
    "some": ("joint", "old", "old"),
    "telling": ("word",),
    "same": ("word", "word"),
    "value": ("word", "number"),
    "names": (),
}


def parted(line, sorts):
    if sorts != () and sorts[-1] in LONG_SORTS:
        return line.split(" ", len(sorts))
    return line.split(" ")


def is_name(word):
    return word != "" and len(word) <= MOST_SIGNS and word.strip(SMALL_LETTERS) == ""


def fits(sort, word):
    if sort in ("name", "old"):
        return is_name(word)
    if sort == "way":
        return word in WAYS
    if sort == "joint":
        return word in JOINTS
    if sort == "kind":
        return word in [kind.word() for kind in all_kinds()]
    # Machines, numbers and endless words are refused by other classes, and only in their turn.
    return True


def line_words(line):
    # Told are the first word and, each behind its sort, the words behind it.
    if not isinstance(line, str):
        raise NoLine("a line is a text")
    first = line.partition(" ")[0]
    if first not in FORMS:
        raise NoLine("no line begins with this word")
    sorts = FORMS[first]
    words = parted(line, sorts)[1:]
    if len(words) != len(sorts):
        raise NoLine("the line has another count of words")
    if not all([fits(sort, word) for sort, word in zip(sorts, words)]):
        raise NoLine("a word of the line is not of the sort that stands there")
    return (first, list(zip(sorts, words)))
