"""Point 5, and points 2 and 3 as far as they speak of words."""

import inspect
import itertools
import unittest

from common import Unfriendly
from needledeck import words
from needledeck.errors import NoHoles, NoWord
from needledeck.words import all_words, beyond, check_word, together, within

NO_HOLES = (0, -1, -60, 61, 62, 1000, 10 ** 5000, -(10 ** 5000), True, False, "8", "", b"8", None, [8], [], (8,), (),
            {8}, {8: 8}, 8.0, 1.5, float("nan"), 8j, int, len, Unfriendly())

# Of eight holes.
NO_WORDS = ((8,), (0, 8), (9,), (10 ** 5000,), (-1,), (-1, 0), (-(10 ** 5000), 3), (0, 0), (3, 3), (1, 4, 4), (1, 1, 4),
            (1, 0), (0, 2, 1), (7, 0), (5, 6, 3), (True,), (False,), (0, True), (False, 1), (True, 2),
            ("0",), (0, "1"), ("",), (None,), (0, None), (None, 0), (1.0,), (0, 1.0), ((0,),), (0, (1,)), ((),),
            ([0],), (Unfriendly(),), (0, Unfriendly()),
            [], [0], [0, 1], None, 0, 3, 8, True, False, "", "0", "0,1", b"", b"\x00", {0}, set(), frozenset((0, 1)),
            {}, {0: 1}, range(3), 0.0, tuple, len, Unfriendly())


def unlike_words():
    """Words of few and of all holes that stand in all ways to one another."""
    return ((), (0,), (1,), (0, 1), (1, 2), (2, 5), (0, 2, 4), (1, 3, 5), (0, 1, 2, 3, 4, 5), (59,), (0, 59),
            tuple(range(60)), tuple(range(0, 60, 2)), tuple(range(1, 60, 2)), tuple(range(30)), tuple(range(30, 60)))


class TestInterface(unittest.TestCase):
    def test_names_and_arguments(self):
        asked = {"check_word": ["holes", "word"], "within": ["one", "other"], "together": ["one", "other"],
                 "beyond": ["one", "other"], "all_words": ["holes"]}
        for name, arguments in asked.items():
            with self.subTest(name=name):
                self.assertEqual(list(inspect.signature(getattr(words, name)).parameters), arguments)


class TestCheckWord(unittest.TestCase):
    def test_every_word_of_few_holes_is_one(self):
        for holes in range(1, 7):
            for many in range(holes + 1):
                for word in itertools.combinations(range(holes), many):
                    self.assertIsNone(check_word(holes, word))

    def test_words_at_the_bounds_of_holes(self):
        for holes in (1, 2, 8, 59, 60):
            for word in ((), (0,), (holes - 1,), tuple(range(holes)), tuple(range(0, holes, 2))):
                with self.subTest(holes=holes, word=word):
                    self.assertIsNone(check_word(holes, word))

    def test_no_holes(self):
        for at, holes in enumerate(NO_HOLES):
            with self.subTest(at=at):
                self.assertRaises(NoHoles, check_word, holes, ())
                self.assertRaises(NoHoles, check_word, holes, (0,))

    def test_no_holes_comes_ahead_of_no_word(self):
        for at, holes in enumerate(NO_HOLES):
            for past, thing in enumerate(NO_WORDS):
                with self.subTest(at=at, past=past):
                    self.assertRaises(NoHoles, check_word, holes, thing)

    def test_no_word(self):
        for at, thing in enumerate(NO_WORDS):
            with self.subTest(at=at):
                self.assertRaises(NoWord, check_word, 8, thing)

    def test_a_place_is_below_the_holes(self):
        for holes in range(1, 61):
            with self.subTest(holes=holes):
                self.assertIsNone(check_word(holes, (holes - 1,)))
                self.assertRaises(NoWord, check_word, holes, (holes,))
                self.assertRaises(NoWord, check_word, holes, tuple(range(holes + 1)))
                self.assertRaises(NoWord, check_word, holes, (-1,))

    def test_of_all_short_tuples_just_the_rising_ones_are_words(self):
        for holes in (1, 2, 3):
            for many in range(4):
                for thing in itertools.product(range(-1, 5), repeat=many):
                    rising = list(thing) == sorted(set(thing))
                    if rising and set(thing) <= set(range(holes)):
                        self.assertIsNone(check_word(holes, thing))
                    else:
                        self.assertRaises(NoWord, check_word, holes, thing)

    def test_what_is_looked_at_stays_as_it_was(self):
        thing = [0, 1]
        self.assertRaises(NoWord, check_word, 8, thing)
        self.assertEqual(thing, [0, 1])


class TestTwoWords(unittest.TestCase):
    def assert_word(self, thing, places):
        self.assertIs(type(thing), tuple)
        self.assertEqual(thing, tuple(sorted(places)))

    def test_within_by_hand(self):
        for one, other, told in (((), (), True), ((), (3,), True), ((3,), (), False), ((1, 4), (1, 4), True),
                                 ((1,), (0, 1), True), ((0, 1), (1,), False), ((0, 2), (1, 3), False),
                                 ((0, 2), (0, 1, 2), True), ((0, 3), (0, 1, 2), False), ((0,), (0, 59), True),
                                 ((59,), (0, 59), True), ((58, 59), (0, 59), False)):
            with self.subTest(one=one, other=other):
                self.assertIs(within(one, other), told)

    def test_together_by_hand(self):
        for one, other, told in (((), (), ()), ((), (3,), (3,)), ((3,), (), (3,)), ((1, 4), (1, 4), (1, 4)),
                                 ((1,), (0, 1), (0, 1)), ((5, 9), (2, 7), (2, 5, 7, 9)), ((8,), (0,), (0, 8)),
                                 ((0, 33), (1, 32, 59), (0, 1, 32, 33, 59))):
            with self.subTest(one=one, other=other):
                self.assert_word(together(one, other), told)

    def test_beyond_by_hand(self):
        for one, other, told in (((), (), ()), ((), (3,), ()), ((3,), (), (3,)), ((1, 4), (1, 4), ()),
                                 ((1,), (0, 1), ()), ((0, 1), (1,), (0,)), ((5, 9), (2, 7), (5, 9)),
                                 ((0, 33, 59), (1, 33), (0, 59))):
            with self.subTest(one=one, other=other):
                self.assert_word(beyond(one, other), told)

    def test_all_three_as_sets_tell(self):
        few = [word for many in range(5) for word in itertools.combinations(range(4), many)]
        for one, other in itertools.product(few + list(unlike_words()), repeat=2):
            self.assertIs(within(one, other), set(one) <= set(other))
            self.assert_word(together(one, other), set(one) | set(other))
            self.assert_word(beyond(one, other), set(one) - set(other))

    def test_what_is_told_is_a_word(self):
        for one, other in itertools.product(unlike_words(), repeat=2):
            self.assertIsNone(check_word(60, together(one, other)))
            self.assertIsNone(check_word(60, beyond(one, other)))

    def test_asked_again_the_same_is_told(self):
        for one, other in itertools.product(unlike_words(), repeat=2):
            for told in (within, together, beyond):
                self.assertEqual(told(one, other), told(one, other))


class TestAllWords(unittest.TestCase):
    def test_by_hand(self):
        self.assertEqual(all_words(1), [(), (0,)])
        self.assertEqual(all_words(2), [(), (0,), (0, 1), (1,)])
        self.assertEqual(all_words(3), [(), (0,), (0, 1), (0, 1, 2), (0, 2), (1,), (1, 2), (2,)])

    def test_all_each_once_in_their_order(self):
        for holes in range(1, 11):
            with self.subTest(holes=holes):
                told = all_words(holes)
                self.assertIs(type(told), list)
                self.assertEqual(len(told), 2 ** holes)
                self.assertEqual(set(told), {word for many in range(holes + 1)
                                             for word in itertools.combinations(range(holes), many)})
                for ahead, behind in zip(told, told[1:]):
                    self.assertLess(ahead, behind)
                for word in told:
                    self.assertIsNone(check_word(holes, word))

    def test_a_new_list_each_time(self):
        for holes in range(1, 11):
            with self.subTest(holes=holes):
                told = all_words(holes)
                kept = list(told)
                self.assertIsNot(all_words(holes), told)
                told.reverse()
                told[0] = "spoilt"
                del told[1:]
                self.assertEqual(all_words(holes), kept)
                again = all_words(holes)
                all_words(holes).clear()
                self.assertEqual(again, kept)


if __name__ == "__main__":
    unittest.main()
