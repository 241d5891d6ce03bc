"""Points 11 and 12, and points 2 to 4 as far as they speak of plain codes and of words' numbers."""

import inspect
import itertools
import math
import random
import unittest

from common import OwnLists, words
from needledeck import codes
from needledeck.codes import choose, number_of, plain, word_at, words_of
from needledeck.errors import NoCount

GREATEST = 10 ** 20 - 1


def some_words(seed, holes, many, how_many):
    chance = random.Random(seed)
    return [tuple(sorted(chance.sample(range(holes), many))) for word in range(how_many)]


class TestInterface(unittest.TestCase):
    def test_names_and_arguments(self):
        asked = {"plain": ["code"], "choose": ["n", "k"], "number_of": ["holes", "word"],
                 "word_at": ["holes", "many", "number"], "words_of": ["holes", "many"]}
        for name, arguments in asked.items():
            with self.subTest(name=name):
                self.assertEqual(list(inspect.signature(getattr(codes, name)).parameters), arguments)


class TestPlain(OwnLists, unittest.TestCase):
    def assert_judged(self, code):
        told = plain(code)
        self.assertIs(type(told), tuple)
        if any(set(one) <= set(other) for one, other in itertools.permutations(code, 2)):
            word, i, j = told
            self.assertEqual(word, "within")
            self.assertEqual([type(i), type(j)], [int, int])
            self.assertNotEqual(i, j)
            self.assertTrue(0 <= i < len(code) and 0 <= j < len(code))
            self.assertLessEqual(set(code[i]), set(code[j]))
        else:
            self.assertEqual(told, ("plain",))

    def test_by_hand(self):
        for code, told in (([], ("plain",)), ([()], ("plain",)), ([(3,)], ("plain",)), ([(0,), (1,)], ("plain",)),
                           ([(0,), (0, 1)], ("within", 0, 1)), ([(0, 1), (0,)], ("within", 1, 0)),
                           ([(), (4,)], ("within", 0, 1)), ([(4,), ()], ("within", 1, 0)),
                           ([(0, 2), (0, 1), (1, 2)], ("plain",)),
                           ([(0, 2), (3,), (1, 2), (0, 1, 2, 4)][1:], ("within", 1, 2)),
                           ([(0, 59), (1, 58), (0, 1, 59)], ("within", 0, 2))):
            with self.subTest(code=code):
                self.assertEqual(plain(code), told)

    def test_all_codes_of_three_holes(self):
        for many in range(9):
            for code in itertools.combinations(words(3), many):
                self.assert_judged(list(code))
                self.assert_judged(list(code)[::-1])

    def test_forty_words(self):
        code = list(dict.fromkeys(some_words(21, 60, 30, 40)))
        self.assertEqual(plain(code), ("plain",))
        for at in (0, 20, 39):
            for word in (code[5][:-1], tuple(range(60)), ()):
                self.assert_judged(code[:at] + [word] + code[at + 1:])
        self.assert_judged(list(itertools.combinations(range(9), 4))[:40])

    def test_nothing_is_shared(self):
        self.assert_own(plain, [])
        self.assert_own(plain, [(0,), (1,)])
        self.assert_own(plain, [(0,), (0, 1)])


class TestChoose(unittest.TestCase):
    def test_edges(self):
        for n, k, told in ((0, 0, 1), (0, 1, 0), (0, 100, 0), (1, 0, 1), (1, 1, 1), (1, 2, 0), (5, 2, 10), (5, 5, 1),
                           (5, 6, 0), (60, 30, 118264581564861424), (100, 0, 1), (100, 100, 1), (100, 99, 100),
                           (99, 100, 0), (100, 50, 100891344545564193334812497256)):
            with self.subTest(n=n, k=k):
                self.assertIs(type(choose(n, k)), int)
                self.assertEqual(choose(n, k), told)

    def test_as_sums_tell(self):
        row = [1]
        for n in range(101):
            for k in range(103):
                self.assertEqual(choose(n, k), row[k] if k <= n else 0)
            self.assertEqual(sum(choose(n, k) for k in range(n + 1)), 2 ** n)
            row = [one + other for one, other in zip([0] + row, row + [0])]

    def test_numbers_of_many_figures(self):
        for n in (GREATEST, 10 ** 100 - 1):
            self.assertEqual(choose(n, 0), 1)
            self.assertEqual(choose(n, 2), n * (n - 1) // 2)
            self.assertEqual(choose(n, n - 2), n * (n - 1) // 2)
            self.assertEqual(choose(n, n), 1)
            self.assertEqual(choose(n, n + 1), 0)
            self.assertEqual(choose(7, n), 0)


class TestNumbers(OwnLists, unittest.TestCase):
    def assert_there_and_back(self, holes, word, number):
        self.assertIs(type(number_of(holes, word)), int)
        self.assertEqual(number_of(holes, word), number)
        self.assertIs(type(word_at(holes, len(word), number)), tuple)
        self.assertEqual(word_at(holes, len(word), number), word)

    def test_all_words_of_few_holes(self):
        for holes in range(1, 10):
            for many in range(holes + 1):
                for number, word in enumerate(itertools.combinations(range(holes), many)):
                    self.assert_there_and_back(holes, word, number)

    def test_single_words_of_sixty_holes(self):
        whole = tuple(range(60))
        for many in range(61):
            self.assert_there_and_back(60, whole[:many], 0)
            self.assert_there_and_back(60, whole[60 - many:], math.comb(60, many) - 1)
        for place in range(60):
            self.assert_there_and_back(60, (place,), place)
            self.assert_there_and_back(60, whole[:place] + whole[place + 1:], 59 - place)
        self.assert_there_and_back(60, (0, 59), 58)
        self.assert_there_and_back(60, (1, 2), 59)
        # The first word of thirty places without the place 0.
        self.assert_there_and_back(60, tuple(range(1, 31)), math.comb(59, 29))

    def test_any_words_of_sixty_holes(self):
        for many in (1, 2, 7, 29, 30, 31, 50, 59):
            told = [(number_of(60, word), word) for word in sorted(some_words(22, 60, many, 30))]
            self.assertEqual(told, sorted(told))
            for number, word in told:
                self.assertTrue(0 <= number < math.comb(60, many))
                self.assert_there_and_back(60, word, number)
        chance = random.Random(23)
        for turn in range(200):
            many = chance.randrange(61)
            number = chance.randrange(math.comb(60, many))
            self.assertEqual(number_of(60, word_at(60, many, number)), number)

    def test_the_next_number_is_the_next_word(self):
        for number in (0, 1, 1000, 118264581564861422):
            one, other = word_at(60, 30, number), word_at(60, 30, number + 1)
            self.assertLess(one, other)
            # The next one keeps what it can: it is had by moving the last place that can be moved.
            at = max(at for at in range(30) if one[at] < 30 + at)
            self.assertEqual(other, one[:at] + tuple(range(one[at] + 1, one[at] + 31 - at)))

    def test_no_count(self):
        for holes in (1, 2, 5, 10, 60):
            for many in range(holes + 1):
                count = math.comb(holes, many)
                for number in (-1, -2, -count, -GREATEST, count, count + 1, 2 * count, GREATEST):
                    with self.subTest(holes=holes, many=many, number=number):
                        self.assertRaises(NoCount, word_at, holes, many, number)

    def test_no_count_where_there_are_no_words(self):
        for holes, many in ((1, 2), (3, 4), (3, 60), (59, 60), (60, 61), (60, GREATEST)):
            for number in (0, -1, 1, GREATEST, -GREATEST):
                with self.subTest(holes=holes, many=many, number=number):
                    self.assertRaises(NoCount, word_at, holes, many, number)

    def test_the_word_of_none(self):
        for holes in (1, 8, 60):
            self.assert_there_and_back(holes, (), 0)
            self.assertRaises(NoCount, word_at, holes, 0, 1)


class TestWordsOf(OwnLists, unittest.TestCase):
    def test_by_hand(self):
        self.assertEqual(words_of(3, 0), [()])
        self.assertEqual(words_of(3, 1), [(0,), (1,), (2,)])
        self.assertEqual(words_of(3, 2), [(0, 1), (0, 2), (1, 2)])
        self.assertEqual(words_of(3, 3), [(0, 1, 2)])
        self.assertEqual(words_of(3, 4), [])

    def test_all_of_at_most_ten_holes_in_their_order(self):
        for holes in range(1, 11):
            for many in range(holes + 3):
                told = words_of(holes, many)
                self.assertIs(type(told), list)
                self.assertEqual(told, list(itertools.combinations(range(holes), many)))
                self.assertEqual(told, sorted(told))
                self.assertEqual(len(told), choose(holes, many))

    def test_each_stands_at_its_number(self):
        for many in range(8):
            for number, word in enumerate(words_of(7, many)):
                self.assertEqual(number_of(7, word), number)
                self.assertEqual(word_at(7, many, number), word)

    def test_nothing_is_shared(self):
        for many in range(6):
            self.assert_own(words_of, 4, many)


if __name__ == "__main__":
    unittest.main()
