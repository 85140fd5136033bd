"""midswitch/groups.py: standings between which the settings can be switched to and fro, point [11]."""

import random
import unittest

import oracle
from midswitch.books import Book
from midswitch.groups import groups_of
from midswitch.settings import standings
from samples import GRID, PAIR, SWITCH


def reached(book, standing):
    found = {standing}
    waiting = [standing]
    for first in waiting:
        for second in book.after(first):
            if second not in found:
                found.add(second)
                waiting.append(second)
    return found


class GroupsTest(unittest.TestCase):

    def test_one_group(self):
        self.assertEqual(Book(SWITCH).groups, ({(0,): 0, (1,): 0}, [[]], [[[0, 1]]]))
        self.assertEqual(Book(PAIR).groups, ({standing: 0 for standing in GRID}, [[]], [[[0, 1], [0, 1]]]))

    def test_no_switches(self):
        numbers, later, readings = Book(PAIR, switches=()).groups
        self.assertEqual(numbers, {standing: at for at, standing in enumerate(GRID)})
        self.assertEqual(later, [[], [], [], []])
        self.assertEqual(readings, [[[0], [0]], [[0], [1]], [[1], [0]], [[1], [1]]])

    def test_one_way_alone(self):
        book = Book(PAIR, switches=(((0, 0), (1, 0)), ((0, 1), (1, 1)), ((1, 0), (0, 0)), ((1, 0), (1, 1))))
        self.assertEqual(book.groups, ({(0, 0): 0, (0, 1): 1, (1, 0): 0, (1, 1): 2}, [[2], [2], []],
                                       [[[0, 1], [0]], [[0], [1]], [[1], [1]]]))

    def test_starts_do_not_matter(self):
        self.assertEqual(Book(PAIR, starts=()).groups, Book(PAIR).groups)
        self.assertEqual(groups_of(Book(PAIR).grid, Book(PAIR).switches), Book(PAIR).groups)

    def test_against_all_ways(self):
        rng = random.Random(151)
        sizes = set()
        for case in range(300):
            settings = rng.choice(oracle.WIDE + (SWITCH, PAIR))
            grid = list(standings(settings))
            few = rng.random() / 3
            book = Book(settings, switches=tuple([(one, other) for one in grid for other in grid
                                                  if one != other and rng.random() < few]))
            numbers, later, readings = book.groups
            ways = {standing: reached(book, standing) for standing in grid}
            for one in grid:
                for other in grid:
                    self.assertIs(numbers[one] == numbers[other], other in ways[one] and one in ways[other])
            for number in range(len(later)):
                members = [standing for standing in grid if numbers[standing] == number]
                after = {numbers[second] for first in members for second in book.after(first)} - {number}
                self.assertEqual(later[number], sorted(after))
                self.assertEqual(readings[number], [sorted(set(column)) for column in zip(*members)])
            self.assertEqual((len(later), len(readings)), (len(set(numbers.values())),) * 2)
            sizes.add(len(later))
        self.assertGreater(len(sizes), 8)


if __name__ == "__main__":
    unittest.main()
