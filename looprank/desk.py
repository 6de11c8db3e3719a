"""A desk: it keeps machines by names, and answers lines about them and about endless words."""

from looprank.digits import from_on, up_to, value_of
from looprank.errors import NoName
from looprank.forms import read_machine, read_number, show_machine
from looprank.joints import Both, Either, Less, Nor, Unlike
from looprank.kinds import all_kinds, kinds_of
from looprank.lines import line_words
from looprank.lowest import lowered
from looprank.machines import MOST_LETTERS
from looprank.pairs import is_within, parting_word
from looprank.reach import trimmed
from looprank.smallest import smallest_form
from looprank.words import first_unlike, read_endless, shortest_telling, show_endless


def make_kept(things):
    return things[1]


def make_fraction(things):
    if things[1] == "up":
        return up_to(things[2], things[3], things[4])
    return from_on(things[2], things[3], things[4])


def make_opposite(things):
    return things[1].opposite()


def make_trimmed(things):
    return trimmed(things[1])


def make_lowest(things):
    return lowered(things[1])


def make_small(things):
    return smallest_form(things[1])


def yes_or_no(truth):
    return "yes" if truth else "no"


def or_none(text):
    return text if text != "" else "none"


def or_dash(text):
    return text if text != "" else "-"


def word_or_none(word):
    return show_endless(word) if word is not None else "none"


def rooms_text(rooms):
    return or_dash(" ".join([str(room) for room in rooms]))


def tell_machine(things):
    return show_machine(things[0])


def tell_lets(things):
    return yes_or_no(things[0].lets(things[1]))


def tell_walk(things):
    walked = things[0].walk(things[1])
    return " | ".join([rooms_text(rooms) for rooms in walked])


def tell_kinds(things):
    return or_none(", ".join(kinds_of(things[0])))


def tell_why(things):
    named = [kind for kind in all_kinds() if kind.word() == things[1]]
    bar = named[0].bar(things[0])
    if bar is None:
        return "yes"
    return " ".join(["no"] + [or_dash(word) for word in bar])


def tell_part(things):
    return word_or_none(parting_word(things[0], things[1]))


def tell_within(things):
    return yes_or_no(is_within(things[0], things[1]))


def joint_called(word, one, other):
    if word == "both":
        return Both(one, other)
    if word == "either":
        return Either(one, other)
    if word == "less":
        return Less(one, other)
    if word == "unlike":
        return Unlike(one, other)
    return Nor(one, other)


def tell_some(things):
    return word_or_none(joint_called(things[0], things[1], things[2]).some_word())


def tell_telling(things):
    return show_endless(shortest_telling(things[0]))


def tell_same(things):
    place = first_unlike(things[0], things[1])
    return "yes" if place is None else f"no {place}"


def tell_value(things):
    value = value_of(things[0], things[1])
    top = value[0]
    bottom = value[1]
    return f"{top}/{bottom}"


MAKERS = {
    "keep": make_kept, "fraction": make_fraction, "opposite": make_opposite, "trim": make_trimmed,
    "lowest": make_lowest, "small": make_small,
}
TELLERS = {
    "show": tell_machine, "lets": tell_lets, "walk": tell_walk, "kinds": tell_kinds, "why": tell_why,
    "part": tell_part, "within": tell_within, "some": tell_some, "telling": tell_telling, "same": tell_same,
    "value": tell_value,
}


class Desk:
    def __init__(self):
        self.machines = {}

    def machine_called(self, name):
        if name not in self.machines:
            raise NoName("the desk keeps no machine by this name")
        return self.machines[name]

    def things_read(self, words):
        # A word of a line is of the letters of the machine that the line names ahead of it, if it names one.
        letters = MOST_LETTERS
        things = []
        for sort, word in words:
            if sort == "old":
                things.append(self.machine_called(word))
                letters = things[-1].letters
            elif sort == "machine":
                things.append(read_machine(word))
            elif sort == "number":
                things.append(read_number(word))
            elif sort == "word":
                things.append(read_endless(word, letters))
            else:
                things.append(word)
        return things

    def names_told(self):
        return or_none(" ".join(sorted(self.machines)))

    def say(self, line):
        words = line_words(line)
        first = words[0]
        things = self.things_read(words[1])
        if first == "names":
            return self.names_told()
        if first in MAKERS:
            make = MAKERS[first]
            self.machines[things[0]] = make(things)
            return "ok"
        tell = TELLERS[first]
        return tell(things)
