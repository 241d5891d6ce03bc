"""Points 13 and 14, and points 2 to 4 as far as they speak of chains."""

import inspect
import itertools
import math
import random
import unittest

from common import OwnLists, Unfriendly, lists_in, words
from needledeck import chains as module
from needledeck.chains import chains, fewest_holes, most, shows_most, two_in


def lone_words(holes):
    return [[word] for word in words(holes)]


def renamed(some, holes, seed):
    """The same chains with the holes in another order, the lists in another order, and some cut in two."""
    chance = random.Random(seed)
    names = chance.sample(range(holes), holes)
    told = []
    for chain in some:
        other = [tuple(sorted(names[place] for place in word)) for word in chain]
        at = chance.randrange(len(other))
        told += [other] if at == 0 or chance.randrange(3) else [other[:at], other[at:]]
    chance.shuffle(told)
    return told


class ChainsCase(OwnLists, unittest.TestCase):
    def assert_chains(self, holes, told):
        self.assertIs(type(told), list)
        for chain in told:
            self.assertIs(type(chain), list)
            self.assertGreaterEqual(len(chain), 1)
            for lower, upper in zip(chain, chain[1:]):
                self.assertLess(set(lower), set(upper))
                self.assertEqual(len(upper), len(lower) + 1)
        found = [word for chain in told for word in chain]
        self.assertEqual({type(word) for word in found}, {tuple})
        self.assertEqual(sorted(found), sorted(words(holes)))


class TestInterface(unittest.TestCase):
    def test_names_and_arguments(self):
        asked = {"chains": ["holes"], "shows_most": ["holes", "thing"], "two_in": ["code", "some"],
                 "most": ["holes"], "fewest_holes": ["values"]}
        for name, arguments in asked.items():
            with self.subTest(name=name):
                self.assertEqual(list(inspect.signature(getattr(module, name)).parameters), arguments)


class TestChains(ChainsCase):
    def test_one_to_ten_holes(self):
        for holes in range(1, 11):
            with self.subTest(holes=holes):
                self.assert_chains(holes, chains(holes))
                self.assertEqual(len(chains(holes)), math.comb(holes, holes // 2))
                self.assertIs(shows_most(holes, chains(holes)), True)

    def test_no_list_stands_in_two_places(self):
        for holes in range(1, 11):
            told = lists_in(chains(holes))
            self.assertEqual(len({id(one) for one in told}), len(told))

    def test_nothing_is_shared(self):
        for holes in range(1, 11):
            self.assert_own(chains, holes)


class TestShowsMost(ChainsCase):
    def test_other_chains_than_the_told_ones(self):
        for holes in range(1, 11):
            with self.subTest(holes=holes):
                told = chains(holes)
                for thing in (told[::-1], lone_words(holes), lone_words(holes)[::-1],
                              [told[0][:1], told[0][1:]] + told[1:], renamed(told, holes, 31),
                              renamed(told, holes, 32)):
                    self.assert_chains(holes, thing)
                    self.assertIs(shows_most(holes, thing), True)
        self.assertIs(shows_most(2, [[(), (1,), (0, 1)], [(0,)]]), True)
        self.assertIs(shows_most(2, [[(0,), (0, 1)], [(), (1,)]]), True)
        self.assertIs(shows_most(1, [[(0,)], [()]]), True)

    def test_one_list_with_a_fault(self):
        for holes in range(1, 11):
            for at in sorted({0, len(chains(holes)) // 2, len(chains(holes)) - 1}):
                told = chains(holes)
                chain = told[at]
                faults = {"left out": [], "an empty list beside": [chain, []], "an empty list": [[]],
                          "twice": [chain, list(chain)], "the same list twice": [chain, chain],
                          "without its first": [chain[1:]], "without its last": [chain[:-1]],
                          "its first twice": [chain[:1] + chain], "its last twice": [chain + chain[-1:]],
                          "its last beside": [chain, chain[-1:]], "a tuple": [tuple(chain)],
                          "lists as words": [[list(word) for word in chain]], "None": [None], "a number": [5],
                          "a text": ["chain"], "a text that is empty": [""], "a word": [chain[0]],
                          "a list too deep": [[chain]], "a dict": [dict.fromkeys(chain)],
                          "a word more": [chain + [tuple(range(holes + 1))]], "a hole more": [chain, [(holes,)]],
                          "below 0": [chain, [(-1,)]], "None beside": [chain + [None]],
                          "another thing": [[Unfriendly()]], "another list": [Unfriendly()],
                          "another place": [[(Unfriendly(),)]]}
                if len(chain) > 1:
                    faults["turned about"] = [chain[::-1]]
                    faults["the first one last"] = [chain[1:] + chain[:1]]
                if len(chain) > 2:
                    faults["without one between"] = [chain[:1] + chain[2:]]
                    faults["one between elsewhere"] = [chain[:1] + chain[2:], chain[1:2]]
                for name, instead in faults.items():
                    with self.subTest(holes=holes, at=at, name=name):
                        self.assertIs(shows_most(holes, told[:at] + instead + told[at + 1:]), False)

    def test_all_but_one_word_and_one_word_twice(self):
        for holes in range(1, 6):
            lone = lone_words(holes)
            for at in range(len(lone)):
                self.assertIs(shows_most(holes, lone[:at] + lone[at + 1:]), False)
                for past in range(len(lone)):
                    if at != past:
                        self.assertIs(shows_most(holes, lone[:at] + [list(lone[past])] + lone[at + 1:]), False)

    def test_a_next_word_has_the_places_of_the_one_ahead_and_one_more(self):
        # In each all words stand once.
        for thing in ([[(), (0,)], [(1,), (0, 1), (0, 2)], [(2,), (1, 2), (0, 1, 2)]],
                      [[(), (0, 1)], [(0,)], [(1,)], [(2,)], [(0, 2)], [(1, 2)], [(0, 1, 2)]],
                      [[(0,), (1, 2)], [()], [(1,)], [(2,)], [(0, 1)], [(0, 2)], [(0, 1, 2)]],
                      [[(0,), ()], [(1,)], [(2,)], [(0, 1)], [(0, 2)], [(1, 2)], [(0, 1, 2)]],
                      [[(0,), (1,)], [()], [(2,)], [(0, 1)], [(0, 2)], [(1, 2)], [(0, 1, 2)]]):
            with self.subTest(thing=thing):
                self.assertEqual(sorted(word for chain in thing for word in chain), sorted(words(3)))
                self.assertIs(shows_most(3, thing), False)

    def test_truths_and_other_numbers_among_the_places(self):
        self.assertIs(shows_most(1, [[(), (0,)]]), True)
        self.assertIs(shows_most(2, [[(), (0,), (0, 1)], [(1,)]]), True)
        for thing in ([[(), (False,)]], [[(), (0.0,)]], [[(), ("0",)]], [[(), (None,)]], [[(), ((0,),)]]):
            self.assertIs(shows_most(1, thing), False)
        for thing in ([[(), (0,), (0, 1)], [(True,)]], [[(), (0,), (0, True)], [(1,)]],
                      [[(), (False,), (0, 1)], [(1,)]], [[(), (0,), (False, True)], [(1,)]],
                      [[(), (0,), (1, 0)], [(1,)]], [[(), (0,), (0, 0)], [(1,)]], [[(), (0,), (0, 1)], [(1.0,)]]):
            self.assertIs(shows_most(2, thing), False)

    def test_words_of_other_holes(self):
        for holes in range(1, 11):
            for other in range(1, 11):
                self.assertIs(shows_most(holes, chains(other)), holes == other)

    def test_what_is_no_list_of_lists(self):
        told = chains(3)
        itself = []
        itself.append(itself)
        for at, thing in enumerate((None, 0, 3, -1, 10 ** 20 - 1, True, False, "", "chains", b"", (), [], [[]], [[[]]],
                                    {}, set(), 1.5, tuple(told), tuple(map(tuple, told)), [tuple(one) for one in told],
                                    dict(enumerate(told)), iter(told), words(3), [words(3)], [told], (told,), itself,
                                    [None], [0], [""], [()], [[None]], [[0]], [["abc"]], [[[0]]], chains, list,
                                    Unfriendly(), [Unfriendly()], [[Unfriendly()]], [[(Unfriendly(),)]])):
            with self.subTest(at=at):
                self.assertIs(shows_most(3, thing), False)

    def test_great_lists(self):
        for thing in ([[()]] * 1100, [[()] * 1100] * 1100, [[(0,)] * 1100], [[tuple(range(1100))]] * 1100,
                      [[] for at in range(1100)], lone_words(10) + [[(0,)]] * 76, [None] * 1100):
            self.assertIs(shows_most(10, thing), False)

    def test_nothing_is_shared(self):
        self.assert_own(shows_most, 3, chains(3))
        self.assert_own(shows_most, 3, chains(3)[1:])
        self.assert_own(shows_most, 2, [[(1,)], [(), (0,)], [[0, 1]]])


class TestTwoIn(ChainsCase):
    def assert_two(self, code, some):
        told = two_in(code, some)
        self.assertEqual([type(told)] + [type(number) for number in told], [tuple, int, int])
        i, j = told
        self.assertNotEqual(i, j)
        self.assertTrue(0 <= i < len(code) and 0 <= j < len(code))
        self.assertLessEqual(set(code[i]), set(code[j]))
        self.assertTrue(any(code[i] in chain and code[j] in chain for chain in some))

    def test_by_hand(self):
        self.assertEqual(two_in([(), (0,)], [[(), (0,)]]), (0, 1))
        self.assertEqual(two_in([(0,), ()], [[(), (0,)]]), (1, 0))
        self.assertEqual(two_in([(1,), (0, 1), (0,)], [[(), (1,)], [(0,), (0, 1)]]), (2, 1))
        self.assertEqual(two_in([(1,), (0, 1), (0,)], [[(0,)], [(), (1,), (0, 1)]]), (0, 1))

    def test_all_codes_of_three_holes(self):
        for some in (chains(3), chains(3)[::-1], renamed(chains(3), 3, 33)):
            for many in range(len(some) + 1, 9):
                for code in itertools.combinations(words(3), many):
                    self.assert_two(list(code), some)
                    self.assert_two(list(code)[::-1], some)

    def test_a_code_with_one_word_more_than_there_are_lists(self):
        chance = random.Random(34)
        for holes in range(1, 8):
            for turn in range(30):
                some = chains(holes) if turn == 0 else renamed(chains(holes), holes, turn)
                if len(some) < 2 ** holes:
                    self.assert_two(chance.sample(words(holes), len(some) + 1), some)
                    self.assert_two(chance.sample(words(holes), 2 ** holes), some)

    def test_a_plain_code_and_one_word_more(self):
        for holes in range(1, 8):
            code, some = most(holes)
            for word in words(holes):
                if word not in code:
                    self.assert_two(code + [word], some)
                    self.assert_two([word] + code[::-1], some)

    def test_nothing_is_shared(self):
        self.assert_own(two_in, [(1,), (0, 1), (0,)], [[(), (1,)], [(0,), (0, 1)]])


class TestMost(ChainsCase):
    def test_a_plain_code_and_as_many_chains(self):
        for holes in range(1, 11):
            with self.subTest(holes=holes):
                told = most(holes)
                self.assertIs(type(told), tuple)
                code, some = told
                self.assertIs(type(code), list)
                self.assertEqual(len(set(code)), len(code))
                self.assertLessEqual(set(code), set(words(holes)))
                self.assertFalse(any(set(one) <= set(other) for one, other in itertools.permutations(code, 2)))
                self.assert_chains(holes, some)
                self.assertEqual(len(code), len(some))
                self.assertIs(shows_most(holes, some), True)

    def test_no_plain_code_of_three_holes_has_more(self):
        greatest = 0
        for many in range(9):
            for code in itertools.combinations(words(3), many):
                if not any(set(one) <= set(other) for one, other in itertools.permutations(code, 2)):
                    greatest = max(greatest, many)
        self.assertEqual(len(most(3)[0]), greatest)

    def test_nothing_is_shared(self):
        for holes in range(1, 11):
            self.assert_own(most, holes)


class TestFewestHoles(unittest.TestCase):
    def test_by_hand(self):
        for values, holes in ((1, 1), (2, 2), (3, 3), (4, 4), (6, 4), (7, 5), (10, 5), (11, 6), (20, 6), (21, 7),
                              (35, 7), (36, 8), (70, 8), (71, 9)):
            with self.subTest(values=values):
                self.assertIs(type(fewest_holes(values)), int)
                self.assertEqual(fewest_holes(values), holes)

    def test_at_one_below_and_one_above(self):
        counts = {holes: math.comb(holes, holes // 2) for holes in range(1, 80)}
        for holes in range(1, 61):
            for values in (counts[holes] - 1, counts[holes], counts[holes] + 1):
                if values >= 1:
                    with self.subTest(values=values):
                        self.assertEqual(fewest_holes(values), min(n for n in counts if counts[n] >= values))

    def test_twenty_figures(self):
        self.assertEqual(fewest_holes(10 ** 19), 67)
        self.assertEqual(fewest_holes(10 ** 20 - 1), 70)


if __name__ == "__main__":
    unittest.main()
