"""midswitch/settings.py: settings and standings, point [10]."""

import itertools
import types
import unittest

from midswitch.errors import BadSettings, SwitchError
from midswitch.settings import is_standing, need_settings, standings
from samples import GRID, OTHER_PAIR, PAIR, any_kind, deep_tuple, without_tuples


class NeedSettingsTest(unittest.TestCase):

    def refused(self, thing, place):
        with self.assertRaises(BadSettings) as caught:
            need_settings(thing)
        self.assertEqual(caught.exception.place, place, thing)
        self.assertNotIsInstance(caught.exception.place, bool)

    def test_it_returns_the_settings_themselves(self):
        for settings in ((("a", 1),), (("abcdefgh", 3),), PAIR, (("a", 1), ("b", 1), ("c", 1)), (("self", 2),)):
            self.assertIs(need_settings(settings), settings)
        self.assertIs(need_settings(thing=PAIR), PAIR)

    def test_no_tuple_of_one_to_three(self):
        for thing in without_tuples(any_kind()):
            self.refused(thing, None)
        self.refused((), None)
        self.refused((("a", 1), ("b", 1), ("c", 1), ("d", 1)), None)
        self.refused((1, 2, 3, 4), None)
        self.refused([("a", 1)], None)

    def test_items_that_are_no_settings(self):
        for item in any_kind():
            self.refused((item,), 0)
            self.refused((("a", 1), item), 1)
            self.refused((("a", 1), ("b", 1), item), 2)
        self.refused((["a", 1],), 0)
        self.refused((("a",),), 0)
        self.refused((("a", 1, 1),), 0)
        self.refused((deep_tuple(49),), 0)

    def test_wrong_names(self):
        for name in any_kind() + ["abcdefghi", "a" * 20000, "aB", "a1", "a b", "a\n", "\n", "a-b", "`", "{",
                                    "\u00e4", "a\u00df", "\u00aa", "\uff41", "\u0430b"]:
            if name != "end":
                self.refused(((name, 1),), 0)

    def test_right_names(self):
        for name in ("a", "z", "end", "do", "ask", "abcdefgh", "zzzzzzzz", "self", "modes"):
            need_settings(((name, 1),))

    def test_wrong_mosts(self):
        for most in without_tuples(any_kind()) + [4, (), (1,)]:
            if most in (1, 2) and not isinstance(most, bool):
                need_settings((("a", most),))
            else:
                self.refused((("a", most),), 0)
                self.refused((("b", 3), ("a", most)), 1)

    def test_the_first_wrong_item(self):
        self.refused((("a", 1), ("b", 0), ("c", 4)), 1)
        self.refused((("a", 1), ("a", 1), ("c", 4)), 1)
        self.refused((("A", 1), ("A", 1), ("A", 1)), 0)

    def test_one_name_twice(self):
        self.refused((("a", 1), ("a", 1)), 1)
        self.refused((("a", 1), ("a", 2)), 1)
        self.refused((("a", 1), ("b", 1), ("a", 1)), 2)
        self.refused((("a", 1), ("b", 1), ("b", 1)), 2)
        self.refused((("a", 1), ("a", 1), ("a", 1)), 1)

    def test_twelve_standings_and_more(self):
        for many in (1, 2, 3):
            for mosts in itertools.product((1, 2, 3), repeat=many):
                settings = tuple(zip(("a", "b", "c"), mosts))
                product = 1
                for most in mosts:
                    product *= most + 1
                if product <= 12:
                    self.assertIs(need_settings(settings), settings)
                else:
                    self.refused(settings, "many")

    def test_wrong_items_come_before_many(self):
        self.refused((("a", 3), ("b", 3), ("c", 4)), 2)
        self.refused((("a", 3), ("b", 3), ("a", 3)), 2)

    def test_it_is_a_switch_error(self):
        with self.assertRaises(SwitchError):
            need_settings(None)


class StandingsTest(unittest.TestCase):

    def test_ascending_each_once(self):
        self.assertEqual(list(standings(PAIR)), list(GRID))
        self.assertEqual(list(standings((("a", 3),))), [(0,), (1,), (2,), (3,)])
        for mosts in ((1,), (2,), (3, 2), (2, 3), (1, 3), (1, 2, 1), (2, 1, 1), (1, 1, 2)):
            settings = tuple(zip(("c", "b", "a"), mosts))
            expected = list(itertools.product(*[range(most + 1) for most in mosts]))
            self.assertEqual(list(standings(settings)), expected)
            self.assertEqual(expected, sorted(set(expected)))

    def test_it_is_a_generator(self):
        made = standings(settings=PAIR)
        self.assertIsInstance(made, types.GeneratorType)
        self.assertEqual(next(made), (0, 0))
        self.assertEqual(list(made), list(GRID[1:]))
        self.assertEqual(list(made), [])

    def test_is_standing(self):
        for settings in (PAIR, OTHER_PAIR, (("a", 3),), (("a", 1), ("b", 2), ("c", 1))):
            every = list(standings(settings))
            for many in range(5):
                for thing in itertools.product((-1, 0, 1, 2, 3, 4), repeat=many):
                    self.assertIs(is_standing(settings, thing), thing in every, (settings, thing))
        self.assertIs(is_standing(settings=PAIR, thing=(1, 0)), True)

    def test_other_values_are_no_standings(self):
        for thing in any_kind():
            self.assertIs(is_standing(PAIR, thing), False)
            self.assertIs(is_standing(PAIR, (0, thing)), isinstance(thing, int) and thing in (0, 1)
                          and not isinstance(thing, bool))
        for thing in ((True, 0), (0, True), (False, False), ((0,), 0), ("0", "0"), (None, None), [0, 0], (0, 0, 0)):
            self.assertIs(is_standing(PAIR, thing), False)


if __name__ == "__main__":
    unittest.main()
