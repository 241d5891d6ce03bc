"""Points 23 and 24, and points 2 to 4 as far as they speak of torn holes."""

import inspect
import itertools
import random
import unittest

from common import OwnLists, words
from needledeck import tears as module
from needledeck.codes import plain
from needledeck.tears import mends, tells, torn_of


def torn(word, holes, most):
    """All words that a word of so many holes comes to by at most so many tears."""
    left = [place for place in range(holes) if place not in word]
    return {tuple(sorted(word + more)) for many in range(min(most, len(left)) + 1)
            for more in itertools.combinations(left, many)}


def small_codes():
    """All codes of three holes, forwards and backwards."""
    for many in range(9):
        for code in itertools.combinations(words(3), many):
            yield list(code)
            yield list(code)[::-1]


def some_codes(seed, holes, many, codes):
    chance = random.Random(seed)
    return [chance.sample(words(holes), many) for code in range(codes)]


def forty_of_sixty(seed):
    chance = random.Random(seed)
    return list({tuple(sorted(chance.sample(range(60), chance.randrange(10, 50)))): True for word in range(40)})


class TestInterface(unittest.TestCase):
    def test_names_and_arguments(self):
        asked = {"tells": ["code", "tears"], "mends": ["code", "tears"], "torn_of": ["code", "tears", "word"]}
        for name, arguments in asked.items():
            with self.subTest(name=name):
                self.assertEqual(list(inspect.signature(getattr(module, name)).parameters), arguments)


class TestTells(OwnLists, unittest.TestCase):
    def assert_judged(self, code, tears, holes):
        told = tells(code, tears)
        self.assertIs(type(told), tuple)
        comes = {(i, j) for (i, one), (j, other) in itertools.permutations(enumerate(code), 2)
                 if other in torn(one, holes, tears)}
        if comes:
            kind, i, j = told
            self.assertEqual(kind, "torn")
            self.assertEqual([type(i), type(j)], [int, int])
            self.assertIn((i, j), comes)
        else:
            self.assertEqual(told, ("tells",))

    def test_by_hand(self):
        for code, tears, told in (([], 0, ("tells",)), ([], 60, ("tells",)), ([()], 60, ("tells",)),
                                  ([(0,), (0, 1)], 0, ("tells",)), ([(0,), (0, 1)], 1, ("torn", 0, 1)),
                                  ([(0, 1), (0,)], 1, ("torn", 1, 0)), ([(0, 1), (0,)], 60, ("torn", 1, 0)),
                                  ([(), (0, 1, 2)], 2, ("tells",)), ([(), (0, 1, 2)], 3, ("torn", 0, 1)),
                                  ([(0, 1), (1, 2), (0, 2)], 60, ("tells",)),
                                  ([(5,), (0, 1), (5, 9)], 1, ("torn", 0, 2))):
            with self.subTest(code=code, tears=tears):
                self.assertEqual(tells(code, tears), told)

    def test_nothing_comes_to_another_by_no_tears(self):
        for code in small_codes():
            self.assertEqual(tells(code, 0), ("tells",))

    def test_all_codes_of_three_holes(self):
        for code in small_codes():
            for tears in range(5):
                self.assert_judged(code, tears, 3)
            self.assert_judged(code, 60, 3)

    def test_greater_codes(self):
        for code in some_codes(101, 6, 12, 10) + some_codes(102, 6, 4, 30):
            for tears in (0, 1, 2, 3, 6, 60):
                self.assert_judged(code, tears, 6)

    def test_a_plain_code_tells_as_many_tears_as_it_has_holes(self):
        for code in small_codes():
            self.assertEqual(tells(code, 3) == ("tells",), plain(code) == ("plain",))

    def test_forty_words_of_sixty_holes(self):
        code = forty_of_sixty(103)
        self.assertEqual(tells(code, 60), ("tells",))
        whole = tuple(range(60))
        least = min(60 - len(word) for word in code)
        self.assertEqual(tells(code[:39] + [whole], least - 1), ("tells",))
        kind, i, j = tells(code[:39] + [whole], 60)
        self.assertEqual((kind, j), ("torn", 39))
        self.assertEqual(tells([(), whole], 59), ("tells",))
        self.assertEqual(tells([(), whole], 60), ("torn", 0, 1))

    def test_nothing_is_shared(self):
        self.assert_own(tells, [(0,), (0, 1)], 1)
        self.assert_own(tells, [(0,), (0, 1)], 0)


class TestMends(OwnLists, unittest.TestCase):
    def assert_judged(self, code, tears, holes):
        told = mends(code, tears)
        self.assertIs(type(told), tuple)
        met = {(i, j) for (i, one), (j, other) in itertools.permutations(enumerate(code), 2)
               if torn(one, holes, tears) & torn(other, holes, tears)}
        if met:
            kind, i, j, word = told
            self.assertEqual(kind, "same")
            self.assertEqual([type(i), type(j), type(word)], [int, int, tuple])
            self.assertIn((i, j), met)
            self.assertIn(word, torn(code[i], holes, tears) & torn(code[j], holes, tears))
            self.assertEqual(word, tuple(sorted(set(code[i]) | set(code[j]))))
        else:
            self.assertEqual(told, ("mends",))

    def test_by_hand(self):
        for code, tears, told in (([], 0, ("mends",)), ([], 60, ("mends",)), ([(3,)], 60, ("mends",)),
                                  ([(0,), (1,)], 0, ("mends",)), ([(0, 1, 2), (3, 4)], 2, ("mends",)),
                                  ([(), (0, 1)], 1, ("mends",)), ([(0, 1, 2), (2, 3)], 1, ("mends",))):
            with self.subTest(code=code, tears=tears):
                self.assertEqual(mends(code, tears), told)
        for code, tears, numbers, word in (([(0,), (1,)], 1, [0, 1], (0, 1)), ([(0,), (1,)], 60, [0, 1], (0, 1)),
                                           ([(), (0, 1)], 2, [0, 1], (0, 1)), ([(0, 1), (0,)], 1, [0, 1], (0, 1)),
                                           ([(0, 1, 2), (3, 4)], 3, [0, 1], (0, 1, 2, 3, 4)),
                                           ([(0, 1, 2), (2, 3)], 2, [0, 1], (0, 1, 2, 3)),
                                           ([(9,), (0, 1), (3, 4, 5), (0, 2)], 1, [1, 3], (0, 1, 2))):
            with self.subTest(code=code, tears=tears):
                kind, i, j, met = mends(code, tears)
                self.assertEqual((kind, sorted([i, j]), met), ("same", numbers, word))

    def test_the_tears_of_each_count(self):
        # From (0,) three tears lead to the other one, from there none.
        code = [(0,), (0, 1, 2, 3)]
        self.assertEqual(mends(code, 2), ("mends",))
        self.assertEqual(mends(code, 3)[0], "same")
        self.assertEqual(mends(code[::-1], 2), ("mends",))
        self.assertEqual(mends(code[::-1], 3)[0], "same")

    def test_all_codes_of_three_holes(self):
        for code in small_codes():
            for tears in range(5):
                self.assert_judged(code, tears, 3)
            self.assert_judged(code, 60, 3)

    def test_greater_codes(self):
        for code in some_codes(104, 6, 12, 6) + some_codes(105, 6, 3, 40) + some_codes(106, 8, 2, 40):
            for tears in (0, 1, 2, 3, 8, 60):
                self.assert_judged(code, tears, 6 if len(code) > 2 else 8)

    def test_forty_words_of_sixty_holes(self):
        code = [tuple(range(at, at + 20)) for at in range(40)]
        self.assertEqual(mends(code, 0), ("mends",))
        kind, i, j, word = mends(code, 1)
        self.assertEqual((kind, abs(i - j), word), ("same", 1, tuple(range(min(i, j), max(i, j) + 20))))
        code = code[::4]
        self.assertEqual(mends(code, 3), ("mends",))
        self.assertEqual(mends(code, 4)[0], "same")
        self.assertEqual(mends([tuple(range(30)), tuple(range(30, 60))], 29), ("mends",))
        kind, i, j, word = mends([tuple(range(30)), tuple(range(30, 60))], 30)
        self.assertEqual((kind, sorted([i, j]), word), ("same", [0, 1], tuple(range(60))))

    def test_nothing_is_shared(self):
        self.assert_own(mends, [(0,), (1,)], 1)
        self.assert_own(mends, [(0,), (1,)], 0)


class TestTornOf(OwnLists, unittest.TestCase):
    def test_by_hand(self):
        code = [(0,), (0, 1), (), (2, 3), (0, 1, 2)]
        for tears, word, told in ((0, (0, 1), [1]), (1, (0, 1), [0, 1]), (2, (0, 1), [0, 1, 2]), (60, (0, 1), [0, 1, 2]),
                                  (0, (5,), []), (1, (5,), [2]), (0, (), [2]), (60, (), [2]),
                                  (1, (0, 1, 2, 3), [4]), (2, (0, 1, 2, 3), [1, 3, 4]), (3, (0, 1, 2, 3), [0, 1, 3, 4]),
                                  (4, (0, 1, 2, 3), [0, 1, 2, 3, 4]), (60, (0, 1, 2, 3), [0, 1, 2, 3, 4])):
            with self.subTest(tears=tears, word=word):
                self.assertIs(type(torn_of(code, tears, word)), list)
                self.assertEqual(torn_of(code, tears, word), told)
        self.assertEqual(torn_of([], 60, (0,)), [])

    def test_as_tearing_tells(self):
        for code in some_codes(107, 5, 10, 6) + [words(5)]:
            for tears in (0, 1, 2, 5, 60):
                for word in words(5):
                    self.assertEqual(torn_of(code, tears, word),
                                     [at for at, one in enumerate(code) if word in torn(one, 5, tears)])

    def test_of_a_code_that_mends_one_word_at_most(self):
        code = [(0, 1, 2), (2, 3, 4), (0, 3, 5), (1, 4, 5)]
        self.assertEqual(mends(code, 1), ("mends",))
        for at, one in enumerate(code):
            for word in torn(one, 6, 1):
                self.assertEqual(torn_of(code, 1, word), [at])

    def test_forty_words_of_sixty_holes(self):
        code = forty_of_sixty(108)
        whole = tuple(range(60))
        for tears in (0, 10, 30, 50, 60):
            self.assertEqual(torn_of(code, tears, whole),
                             [at for at, word in enumerate(code) if len(word) >= 60 - tears])
            self.assertEqual(torn_of(code, tears, code[7]), [7])

    def test_nothing_is_shared(self):
        self.assert_own(torn_of, [(0,), (0, 1), ()], 1, (0, 1))
        self.assert_own(torn_of, [], 0, ())


if __name__ == "__main__":
    unittest.main()
