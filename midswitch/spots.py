"""All situations of a request in a book: where it can stand, and what it can still do from there.

A situation is a place, a standing, and what is kept. Here it is told by a number; a set of situations is an integer
with a bit for each number.
"""

from midswitch.charts import ENDED, Chart, first_spot, goer


class Spots:
    """The situations to which right runs come, those of the starts first, and the moves between them."""

    def __init__(self, book, request):
        self.chart = Chart(book, request)
        self.codes = [first_spot(self.chart, request.modes, start) for start in book.starts]
        self.first_many = len(self.codes)
        self.silent, self.deeds, self.ends = [], [], 0
        self.find_all(request)
        self.deeds_by_name = by_name(self.deeds)
        self.quiet = {}

    def find_all(self, request):
        """Notes of each situation those behind its moves without a deed, and its deed: the name and the one behind."""
        chart, codes = self.chart, self.codes
        gone = goer(chart, request.modes)
        numbers = {code: at for at, code in enumerate(codes)}
        while len(self.silent) < len(codes):
            code = codes[len(self.silent)]
            afters = [code + way for way, bit in chart.turns[chart.standing_of(code)]]
            after = gone(code)
            if after == ENDED:
                self.ends |= 1 << len(self.silent)
            else:
                afters.append(after)
            for other in afters:
                if other not in numbers:
                    numbers[other] = len(codes)
                    codes.append(other)
            behind = [numbers[other] for other in afters]
            place = request.places[code >> chart.place_at]
            self.deeds.append((place[1], behind.pop()) if place[0] == "do" else None)
            self.silent.append(behind)

    def widened(self, number):
        """The set of all to which one comes from this one with no deed."""
        if number not in self.quiet:
            self.quiet[number] = flooded(self.silent, self.quiet, number)
        return self.quiet[number]

    def behind_starts(self):
        """The set of all to which one comes from the starts with no deed."""
        found = 0
        for number in range(self.first_many):
            found |= self.widened(number)
        return found

    def behind_deed(self, here, name):
        """The set of all to which one comes from this set by a deed with this name, and then with no deed."""
        found = 0
        for bit, number in self.deeds_by_name.get(name, ()):
            if here & bit:
                found |= self.widened(number)
        return found


def by_name(deeds):
    """For each name of a deed: pairs of the bit of a situation that does it and the number of the one behind it."""
    pairs = {}
    for at, deed in enumerate(deeds):
        if deed is not None:
            name, number = deed
            pairs.setdefault(name, []).append((1 << at, number))
    return pairs


def flooded(silent, quiet, number):
    """The set of all to which one comes from this one by silent moves; quiet has such sets that are known."""
    found = 0
    waiting = [number]
    while waiting:
        at = waiting.pop()
        if found >> at & 1 == 0:
            if at in quiet:
                found |= quiet[at]
            else:
                found |= 1 << at
                waiting += silent[at]
    return found
