"""Points 15 to 17, and points 2 to 4 as far as they speak of several values in one field."""

import inspect
import itertools
import random
import unittest

from common import OwnLists, words
from needledeck import several as module
from needledeck.several import apart, clean, cut_in, looked_up

# Seven words of three places each, any two of which have just one place in both.
SEVEN = [(0, 1, 2), (0, 3, 4), (0, 5, 6), (1, 3, 5), (1, 4, 6), (2, 3, 6), (2, 4, 5)]


def made_of(code, numbers):
    return tuple(sorted({place for number in numbers for place in code[number]}))


def number_lists(many, most):
    return [numbers for size in range(most + 1) for numbers in itertools.combinations(range(many), size)]


def fewest_others(code, most):
    """How many others at least cover some word, or None where that takes more than most."""
    sizes = [len(numbers) for numbers in number_lists(len(code), most) for i, word in enumerate(code)
             if i not in numbers and set(word) <= set(made_of(code, numbers))]
    return min(sizes, default=None)


def small_codes():
    """All codes of three holes, forwards and backwards."""
    for many in range(9):
        for code in itertools.combinations(words(3), many):
            yield list(code)
            yield list(code)[::-1]


def some_codes(seed, holes, places, many, codes):
    chance = random.Random(seed)
    such = [word for word in words(holes) if len(word) in places]
    return [chance.sample(such, many) for code in range(codes)]


class TestInterface(unittest.TestCase):
    def test_names_and_arguments(self):
        asked = {"cut_in": ["code", "numbers"], "clean": ["code", "several"], "looked_up": ["code", "card"],
                 "apart": ["code", "several"]}
        for name, arguments in asked.items():
            with self.subTest(name=name):
                self.assertEqual(list(inspect.signature(getattr(module, name)).parameters), arguments)


class TestCutIn(OwnLists, unittest.TestCase):
    def test_by_hand(self):
        code = [(0, 5), (2,), (), (1, 2, 5)]
        for numbers, told in (([], ()), ([0], (0, 5)), ([1, 0], (0, 2, 5)), ([0, 1], (0, 2, 5)), ([1, 1], (2,)),
                              ([2], ()), ([2, 1, 2], (2,)), ([3, 0, 3], (0, 1, 2, 5)), ([0, 1, 2, 3], (0, 1, 2, 5))):
            with self.subTest(numbers=numbers):
                self.assertIs(type(cut_in(code, numbers)), tuple)
                self.assertEqual(cut_in(code, numbers), told)
        self.assertEqual(cut_in([], []), ())

    def test_numbers_in_any_order_and_twice(self):
        for numbers in itertools.product(range(7), repeat=3):
            self.assertEqual(cut_in(SEVEN, list(numbers)), made_of(SEVEN, numbers))

    def test_forty_words_of_sixty_holes(self):
        chance = random.Random(41)
        code = [tuple(sorted(chance.sample(range(60), chance.randrange(6)))) for word in range(40)]
        for turn in range(100):
            numbers = chance.choices(range(40), k=chance.randrange(12))
            self.assertEqual(cut_in(code, numbers), made_of(code, numbers))
        self.assertEqual(cut_in(code, list(range(40))), made_of(code, range(40)))

    def test_nothing_is_shared(self):
        self.assert_own(cut_in, [(0, 5), (2,)], [1, 0])
        self.assert_own(cut_in, [(0, 5), (2,)], [])


class TestLookedUp(OwnLists, unittest.TestCase):
    def test_by_hand(self):
        code = [(0, 5), (2,), (), (1, 2, 5)]
        for card, told in (((), [2]), ((0,), [2]), ((0, 5), [0, 2]), ((2, 9, 59), [1, 2]), ((0, 1, 2, 5), [0, 1, 2, 3]),
                           ((7, 8), [2]), (tuple(range(60)), [0, 1, 2, 3])):
            with self.subTest(card=card):
                self.assertIs(type(looked_up(code, card)), list)
                self.assertEqual(looked_up(code, card), told)
        self.assertEqual(looked_up([], (0, 1)), [])
        self.assertEqual(looked_up([(0,)], ()), [])
        self.assertEqual(looked_up([()], ()), [0])

    def test_as_sets_tell(self):
        for code in some_codes(42, 6, (1, 2, 3), 30, 5):
            for card in words(7):
                self.assertEqual(looked_up(code, card), [at for at in range(30) if set(code[at]) <= set(card)])

    def test_of_a_clean_code_just_what_was_cut_in(self):
        self.assertEqual(clean(SEVEN, 2), ("clean",))
        for numbers in number_lists(7, 2):
            self.assertEqual(looked_up(SEVEN, cut_in(SEVEN, list(numbers))), list(numbers))

    def test_nothing_is_shared(self):
        self.assert_own(looked_up, [(0, 5), (2,), ()], (2, 3))
        self.assert_own(looked_up, [], ())


class TestClean(OwnLists, unittest.TestCase):
    def assert_judged(self, code, several):
        told = clean(code, several)
        self.assertIs(type(told), tuple)
        fewest = fewest_others(code, several)
        if fewest is None:
            self.assertEqual(told, ("clean",))
        else:
            word, i, others = told
            self.assertEqual(word, "covered")
            self.assertEqual((type(i), type(others)), (int, list))
            self.assertEqual(others, sorted(set(others)))
            self.assertLessEqual(set(others + [i]), set(range(len(code))))
            self.assertNotIn(i, others)
            self.assertEqual(len(others), fewest)
            self.assertLessEqual(set(code[i]), set(made_of(code, others)))

    def test_by_hand(self):
        for code, several, told in (([], 1, ("clean",)), ([], 3, ("clean",)), ([(0,)], 3, ("clean",)),
                                    ([()], 1, ("covered", 0, [])), ([(1,), (), (0,)], 3, ("covered", 1, [])),
                                    ([(0,), (0, 1)], 1, ("covered", 0, [1])), ([(0, 1), (0,)], 1, ("covered", 1, [0])),
                                    ([(0, 1), (0, 2), (1, 3)], 1, ("clean",)),
                                    ([(0, 1), (0, 2), (1, 3)], 2, ("covered", 0, [1, 2])),
                                    ([(1, 3), (0, 1), (0, 2)], 3, ("covered", 1, [0, 2])),
                                    (SEVEN, 1, ("clean",)), (SEVEN, 2, ("clean",)),
                                    ([(place,) for place in range(12)], 3, ("clean",))):
            with self.subTest(code=code, several=several):
                self.assertEqual(clean(code, several), told)

    def test_as_few_others_as_any_for_any_word(self):
        # The first word takes three others, the last one takes but one.
        code = [(0, 1, 2), (0, 10), (1, 11), (2, 12), (20, 21), (20,)]
        for several in (1, 2, 3):
            self.assertEqual(clean(code, several), ("covered", 5, [4]))
        self.assertEqual(clean(code[:4], 2), ("clean",))
        self.assertEqual(clean(code[:4], 3), ("covered", 0, [1, 2, 3]))

    def test_more_than_there_are_others(self):
        for several in (1, 2, 3):
            self.assertEqual(clean([(0,), (1,)], several), ("clean",))
            self.assert_judged([(0, 1), (1, 2)], several)

    def test_all_codes_of_three_holes(self):
        for code in small_codes():
            for several in (1, 2, 3):
                self.assert_judged(code, several)

    def test_twelve_words(self):
        for code in some_codes(43, 9, (3,), 12, 6) + some_codes(44, 9, (2, 3, 4), 12, 3):
            for several in (1, 2, 3):
                self.assert_judged(code, several)
        for several in (1, 2, 3):
            self.assert_judged(SEVEN, several)

    def test_nothing_is_shared(self):
        for several in (1, 2, 3):
            self.assert_own(clean, [(0, 1), (0, 2), (1, 3)], several)
            self.assert_own(clean, [(0,), ()], several)
            self.assert_own(clean, [(0,), (1,)], several)


class TestApart(OwnLists, unittest.TestCase):
    def assert_judged(self, code, several):
        told = apart(code, several)
        self.assertIs(type(told), tuple)
        lists = number_lists(len(code), several)
        if len({made_of(code, numbers) for numbers in lists}) == len(lists):
            self.assertEqual(told, ("apart",))
        else:
            word, one, other = told
            self.assertEqual(word, "same")
            self.assertNotEqual(one, other)
            for numbers in (one, other):
                self.assertIs(type(numbers), list)
                self.assertIn(tuple(numbers), lists)
            self.assertEqual(made_of(code, one), made_of(code, other))

    def test_by_hand(self):
        for code in ([], [(0,)], [(0,), (1,)], SEVEN, [(place,) for place in range(12)]):
            for several in (1, 2):
                with self.subTest(code=code, several=several):
                    self.assertEqual(apart(code, several), ("apart",))
        self.assertEqual(apart([(0, 1), (0, 2), (1, 3)], 2), ("apart",))
        self.assertEqual(sorted(apart([(0, 1), (0, 2), (1, 3)], 3)[1:]), [[0, 1, 2], [1, 2]])
        self.assertEqual(apart([(0,), (0, 1)], 1), ("apart",))
        self.assertEqual(sorted(apart([(0,), (0, 1)], 2)[1:]), [[0, 1], [1]])

    def test_the_list_of_none_where_the_code_has_the_word_of_none(self):
        for several in (1, 2, 3):
            self.assertEqual(sorted(apart([()], several)[1:]), [[], [0]])
            self.assert_judged([(0,), (1,), ()], several)
        self.assertEqual(sorted(apart([(0,), (1,), ()], 1)[1:]), [[], [2]])

    def test_all_codes_of_three_holes(self):
        for code in small_codes():
            for several in (1, 2, 3):
                self.assert_judged(code, several)

    def test_twelve_words(self):
        for code in some_codes(45, 9, (3,), 12, 6) + some_codes(46, 9, (2, 3, 4), 12, 3):
            for several in (1, 2, 3):
                self.assert_judged(code, several)
        self.assertEqual(apart([(place, place + 12) for place in range(12)], 3), ("apart",))

    def test_clean_and_apart(self):
        codes = list(small_codes()) + some_codes(47, 8, (2, 3), 5, 60)
        for code in codes:
            for several in (1, 2, 3):
                if clean(code, several) == ("clean",):
                    self.assertEqual(apart(code, several), ("apart",))
                if several > 1 and apart(code, several) == ("apart",):
                    self.assertEqual(clean(code, several - 1), ("clean",))

    def test_nothing_is_shared(self):
        for several in (1, 2, 3):
            self.assert_own(apart, [(0, 1), (0, 2), (1, 3)], several)
            self.assert_own(apart, [(0,), ()], several)
            self.assert_own(apart, [(0,), (0, 1)], several)


if __name__ == "__main__":
    unittest.main()
