"""Points 25 and 26, and points 2 to 4 as far as they speak of counts of all needlings."""

import inspect
import itertools
import random
import unittest

from common import OwnLists, words
from needledeck import counts as module
from needledeck.counts import counts, deck_of, just
from needledeck.decks import needled


def ordered(holes):
    return sorted(words(holes))


def some_decks(seed, holes, decks):
    chance = random.Random(seed)
    return [chance.choices(words(holes), k=chance.randrange(61)) for deck in range(decks)]


def small_decks(holes, most):
    return [list(deck) for many in range(most + 1)
            for deck in itertools.combinations_with_replacement(ordered(holes), many)]


def dropping(deck, word):
    return len([card for card in deck if set(word) <= set(card)])


def cards_of(holes, numbers):
    """For each word how many cards there would be of it, the ones with most places reckoned first."""
    told = dict(zip(ordered(holes), numbers))
    for word in reversed(words(holes)):
        told[word] -= sum(told[other] for other in words(holes) if set(word) < set(other))
    return told


class TestInterface(unittest.TestCase):
    def test_names_and_arguments(self):
        asked = {"counts": ["holes", "deck"], "deck_of": ["holes", "numbers"],
                 "just": ["holes", "numbers", "notched", "whole"]}
        for name, arguments in asked.items():
            with self.subTest(name=name):
                self.assertEqual(list(inspect.signature(getattr(module, name)).parameters), arguments)


class TestCounts(OwnLists, unittest.TestCase):
    def assert_counts(self, holes, deck):
        told = counts(holes, deck)
        self.assertIs(type(told), list)
        self.assertEqual({type(number) for number in told}, {int})
        self.assertEqual(told, [dropping(deck, word) for word in ordered(holes)])

    def test_by_hand(self):
        for holes, deck, told in ((1, [], [0, 0]), (1, [()], [1, 0]), (1, [(0,)], [1, 1]), (1, [(0,), (), (0,)], [3, 2]),
                                  # (), (0,), (0, 1), (1,).
                                  (2, [], [0, 0, 0, 0]), (2, [(1,)], [1, 0, 0, 1]), (2, [(0, 1)], [1, 1, 1, 1]),
                                  (2, [(1,), (0, 1), (), (1,)], [4, 1, 1, 3]),
                                  # (), (0,), (0, 1), (0, 1, 2), (0, 2), (1,), (1, 2), (2,).
                                  (3, [(1, 2), (0,), (2,)], [3, 1, 0, 0, 0, 1, 1, 2])):
            with self.subTest(holes=holes, deck=deck):
                self.assertEqual(counts(holes, deck), told)

    def test_all_small_decks(self):
        for holes, most in ((1, 4), (2, 4), (3, 3)):
            for deck in small_decks(holes, most):
                self.assert_counts(holes, deck)
                self.assert_counts(holes, deck[::-1])

    def test_sixty_cards_of_ten_holes(self):
        for holes in range(4, 11):
            for deck in some_decks(110 + holes, holes, 2):
                self.assert_counts(holes, deck)
        self.assert_counts(10, random.Random(121).choices(words(10), k=60))
        self.assertEqual(counts(10, [tuple(range(10))] * 60), [60] * 1024)
        self.assertEqual(counts(10, [()] * 60), [60] + [0] * 1023)

    def test_as_needling_tells(self):
        for deck in some_decks(122, 5, 3):
            self.assertEqual(counts(5, deck), [len(needled(deck, word)[0]) for word in ordered(5)])

    def test_nothing_is_shared(self):
        self.assert_own(counts, 2, [(1,), (0, 1)])
        self.assert_own(counts, 1, [])


class TestDeckOf(OwnLists, unittest.TestCase):
    def assert_leads_back(self, holes, deck):
        told = deck_of(holes, counts(holes, deck))
        self.assertIs(type(told), tuple)
        self.assertEqual(told, ("deck", sorted(deck)))
        self.assertIs(type(told[1]), list)

    def assert_judged(self, holes, numbers):
        told = deck_of(holes, numbers)
        self.assertIs(type(told), tuple)
        cards = cards_of(holes, numbers)
        if min(cards.values()) < 0:
            kind, word = told
            self.assertEqual(kind, "never")
            self.assertIs(type(word), tuple)
            self.assertLess(cards[word], 0)
        else:
            self.assertEqual(told, ("deck", [word for word in ordered(holes) for card in range(cards[word])]))
        return told[0]

    def test_by_hand(self):
        for holes, numbers, told in ((1, [0, 0], ("deck", [])), (1, [3, 1], ("deck", [(), (), (0,)])),
                                     (1, [1, 2], ("never", ())), (1, [0, -1], ("never", (0,))),
                                     (1, [-1, 0], ("never", ())), (1, [-5, -5], ("never", (0,))),
                                     # (), (0,), (0, 1), (1,).
                                     (2, [4, 1, 1, 3], ("deck", [(), (0, 1), (1,), (1,)])),
                                     (2, [1, 1, 0, 1], ("never", ())), (2, [2, 1, 1, 0], ("never", (1,))),
                                     (2, [2, 1, 2, 2], ("never", (0,))), (2, [1, 0, -1, 0], ("never", (0, 1)))):
            with self.subTest(holes=holes, numbers=numbers):
                self.assertEqual(deck_of(holes, numbers), told)

    def test_counts_lead_back_to_just_the_deck(self):
        for holes, most in ((1, 4), (2, 4), (3, 3)):
            for deck in small_decks(holes, most):
                self.assert_leads_back(holes, deck)
                self.assert_leads_back(holes, deck[::-1])
        for holes in range(1, 11):
            for deck in some_decks(130 + holes, holes, 3):
                self.assert_leads_back(holes, deck)
        self.assert_leads_back(10, [tuple(range(10))] * 60)

    def test_all_numbers_of_few_holes(self):
        for holes, numbers in ((1, range(-3, 6)), (2, range(-2, 4))):
            kinds = {self.assert_judged(holes, list(some))
                     for some in itertools.product(numbers, repeat=2 ** holes)}
            self.assertEqual(kinds, {"deck", "never"})

    def test_numbers_that_lead_to_a_deck_are_its_counts(self):
        for numbers in itertools.product(range(4), repeat=4):
            kind, deck = deck_of(2, list(numbers))
            if kind == "deck":
                self.assertEqual(counts(2, deck), list(numbers))

    def test_bent_counts(self):
        for holes in (2, 3, 4):
            for deck in some_decks(140 + holes, holes, 4):
                told = counts(holes, deck)
                for at in range(len(told)):
                    for more in (-1, 1):
                        self.assert_judged(holes, told[:at] + [told[at] + more] + told[at + 1:])

    def test_any_numbers_from_minus_sixty_to_sixty(self):
        chance = random.Random(150)
        for holes in range(1, 7):
            for turn in range(10):
                self.assert_judged(holes, [chance.randrange(-60, 61) for word in range(2 ** holes)])
        for numbers in ([-60] * 1024, [60] * 1023 + [-60], [60] + [-60] * 1023):
            kind, word = deck_of(10, numbers)
            self.assertEqual(kind, "never")
        self.assertEqual(deck_of(10, [60] * 1024), ("deck", [tuple(range(10))] * 60))
        self.assertEqual(deck_of(10, [0] * 1024), ("deck", []))

    def test_nothing_is_shared(self):
        self.assert_own(deck_of, 2, [4, 1, 1, 3])
        self.assert_own(deck_of, 2, [1, 1, 0, 1])
        self.assert_own(deck_of, 1, [0, 0])


class TestJust(OwnLists, unittest.TestCase):
    def test_by_hand(self):
        told = counts(3, [(1, 2), (0,), (2,), (), (0, 1, 2), (1, 2)])
        for notched, whole, many in (((), (), 6), ((2,), (), 4), ((), (2,), 2), ((1,), (0,), 2), ((1, 2), (0,), 2),
                                     ((1,), (2,), 0), ((), (0, 1, 2), 1), ((0, 1, 2), (), 1), ((2,), (0, 1), 1),
                                     ((0,), (1, 2), 1), ((0, 1), (2,), 0)):
            with self.subTest(notched=notched, whole=whole):
                self.assertIs(type(just(3, told, notched, whole)), int)
                self.assertEqual(just(3, told, notched, whole), many)

    def test_as_looking_at_each_card_tells(self):
        for holes in (1, 2, 3, 4, 5):
            for deck in some_decks(160 + holes, holes, 3) + [[]]:
                told = counts(holes, deck)
                for notched, whole in itertools.product(words(holes), repeat=2):
                    if not set(notched) & set(whole):
                        self.assertEqual(just(holes, told, notched, whole),
                                         len([card for card in deck
                                              if set(notched) <= set(card) and not set(whole) & set(card)]))

    def test_ten_holes(self):
        chance = random.Random(170)
        deck = chance.choices(words(10), k=40) + [(0, 5, 9)] * 20
        told = counts(10, deck)
        everywhere = tuple(range(10))
        self.assertEqual(just(10, told, (), everywhere), deck.count(()))
        self.assertEqual(just(10, told, everywhere, ()), deck.count(everywhere))
        self.assertEqual(just(10, told, (0, 5, 9), (1, 2, 3, 4, 6, 7, 8)), deck.count((0, 5, 9)))
        for turn in range(20):
            places = chance.sample(range(10), chance.randrange(11))
            at = chance.randrange(len(places) + 1)
            notched, whole = sorted(places[:at]), sorted(places[at:])
            self.assertEqual(just(10, told, tuple(notched), tuple(whole)),
                             len([card for card in deck if set(notched) <= set(card) and not set(whole) & set(card)]))

    def test_nothing_is_shared(self):
        self.assert_own(just, 2, [4, 1, 1, 3], (1,), (0,))
        self.assert_own(just, 2, [4, 1, 1, 3], (), ())


if __name__ == "__main__":
    unittest.main()
