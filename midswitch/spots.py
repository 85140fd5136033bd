"""The situations of a request in a book, and the sets of them to which all right runs with one row come, point [15].

A situation is a place, a standing, and what is kept. A run can always be switched on through the whole group of its
standing, so of the situations with one place, one group and one thing kept such a set has all or none. Therefore they
are one spot here. A group and what is kept are a side; the spots of a side have numbers one behind the other, by their
places, and the first of these numbers is its base. A set of spots is an integer with a bit for each of them.
"""

from midswitch.settings import order_of
from midswitch.steps import UNREAD, first_kept


class Spots:
    """The spots to which one has come, the moves between them, and the sets of them."""

    def __init__(self, book, request):
        self.request = request
        self.numbers, self.later, self.readings = book.groups
        self.order = order_of(request.settings)
        self.many = len(request.places)
        self.sides = []
        self.bases = {}
        # What was found out is noted, since one comes to the same spots and sets again and again. By the number of a
        # spot: those behind its moves without a deed; the name of its deed and the spot behind it; the set of all to
        # which one comes from it with no deed. By a set: the sets behind its deeds.
        self.silent, self.deeds, self.quiet, self.ways = {}, {}, {}, {}
        # The sets of the spots that do a deed, of those that do one with each name, and of those at an end.
        self.doing, self.doing_by_name, self.ends = 0, {}, 0
        self.first = self.behind_starts(book.starts)

    def behind_starts(self, starts):
        """The set of all to which one comes from these starts with no deed."""
        if "begin" in self.request.modes:
            firsts = {(self.numbers[start], first_kept(self.request, start)): True for start in starts}
        else:
            # The same is kept of all starts: nothing.
            unread = (UNREAD,) * len(self.order)
            firsts = {(self.numbers[start], unread): True for start in starts}
        found = 0
        for group, kept in firsts:
            found |= self.widened(self.base_of(group, kept))
        return found

    def base_of(self, group, kept):
        """The base of a side, which is a new one if one comes to it for the first time."""
        side = (group, kept)
        if side not in self.bases:
            self.bases[side] = len(self.sides) * self.many
            self.sides.append(side)
        return self.bases[side]

    def widened(self, first):
        """The set of all to which one comes from this spot with no deed."""
        # Most of the time is spent here, so these are read off their attributes once.
        quiet, silent = self.quiet, self.silent
        if first in quiet:
            return quiet[first]
        found = 0
        waiting = [first]
        while waiting:
            number = waiting.pop()
            if number in quiet:
                found |= quiet[number]
            elif found >> number & 1 == 0:
                found |= 1 << number
                if number not in silent:
                    self.look_around(number)
                waiting += silent[number]
        quiet[first] = found
        return found

    def look_around(self, number):
        """Notes the moves of a spot."""
        side, at = divmod(number, self.many)
        group, kept = self.sides[side]
        place = self.request.places[at]
        silent = [self.base_of(other, kept) + at for other in self.later[group]]
        if place[0] == "do":
            name = place[1]
            self.deeds[number] = (name, number - at + place[2])
            self.doing |= 1 << number
            self.doing_by_name[name] = self.doing_by_name.get(name, 0) | 1 << number
        elif place[0] == "ask":
            silent += self.behind_ask(number - at, place[1], place[2])
        else:
            self.ends |= 1 << number
        self.silent[number] = silent

    def behind_ask(self, base, name, nexts):
        """A list of the spots behind an ask in the side with this base."""
        group, kept = self.sides[base // self.many]
        at = self.order[name]
        if kept[at] != UNREAD:
            return [base + nexts[kept[at]]]
        values = self.readings[group][at]
        if self.request.modes[at] == "met":
            return [self.base_of(group, kept[:at] + (value,) + kept[at + 1:]) + nexts[value] for value in values]
        return [base + nexts[value] for value in values]

    def behind_deed(self, here, name):
        """The set of all to which one comes from this set by a deed with this name, and then with no deed."""
        found = 0
        for number in numbers_in(here & self.doing_by_name.get(name, 0)):
            found |= self.widened(self.deeds[number][1])
        return found

    def behind_deeds(self, here):
        """A dict with the set to which one comes from this set by each deed, and then with no deed, by its name."""
        if here not in self.ways:
            found = {}
            for number in numbers_in(here & self.doing):
                name, behind = self.deeds[number]
                found[name] = found.get(name, 0) | self.widened(behind)
            self.ways[here] = found
        return self.ways[here]


def numbers_in(spots):
    """A list of the numbers of the spots of a set."""
    numbers = []
    while spots:
        numbers.append(spots.bit_length() - 1)
        spots ^= 1 << numbers[-1]
    return numbers
