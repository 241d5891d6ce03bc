"""Point 27, and points 2 to 4 as far as they speak of fewest places."""

import inspect
import itertools
import random
import unittest

from common import OwnLists, Unfriendly, words
from needledeck import fewest
from needledeck.fewest import fewest_places, shows_fewest


def same_at(one, other, places):
    return set(one) & set(places) == set(other) & set(places)


def parts(deck, places):
    return not any(same_at(one, other, places) for one, other in itertools.combinations(deck, 2))


def fewest_by_hand(holes, deck):
    """How many places part a deck at least."""
    return min(many for many in range(holes + 1)
               if any(parts(deck, places) for places in itertools.combinations(range(holes), many)))


def shows_by_hand(holes, deck, places, pairs):
    if not parts(deck, places):
        return False
    if not places:
        return pairs == []
    return all(any(same_at(deck[i], deck[j], fewer) for i, j in pairs)
               for fewer in itertools.combinations(range(holes), len(places) - 1))


def all_pairs(deck):
    return list(itertools.combinations(range(len(deck)), 2))


def small_decks(holes, most):
    return [list(deck) for many in range(most + 1) for deck in itertools.product(words(holes), repeat=many)]


def some_decks(seed, holes, most, decks):
    """Decks of unlike cards."""
    chance = random.Random(seed)
    return [chance.sample(words(holes), min(chance.randrange(most + 1), 2 ** holes)) for deck in range(decks)]


class TestInterface(unittest.TestCase):
    def test_names_and_arguments(self):
        asked = {"fewest_places": ["holes", "deck"], "shows_fewest": ["holes", "deck", "thing"]}
        for name, arguments in asked.items():
            with self.subTest(name=name):
                self.assertEqual(list(inspect.signature(getattr(fewest, name)).parameters), arguments)


class TestFewestPlaces(OwnLists, unittest.TestCase):
    def assert_told(self, holes, deck):
        told = fewest_places(holes, deck)
        self.assertIs(type(told), tuple)
        self.assertEqual(len(told), 3)
        if len(set(deck)) < len(deck):
            kind, i, j = told
            self.assertEqual([kind, type(i), type(j)], ["same", int, int])
            self.assertTrue(0 <= i < j < len(deck))
            self.assertEqual(deck[i], deck[j])
        else:
            kind, places, pairs = told
            self.assertEqual([kind, type(places), type(pairs)], ["places", tuple, list])
            self.assertIn(places, words(holes))
            self.assertEqual(len(places), fewest_by_hand(holes, deck))
            for pair in pairs:
                self.assertIs(type(pair), tuple)
                self.assertIn(pair, all_pairs(deck))
            self.assertTrue(shows_by_hand(holes, deck, places, pairs))
        self.assertIs(shows_fewest(holes, deck, told), True)

    def test_by_hand(self):
        for holes, deck, told in ((1, [], ("places", (), [])), (1, [()], ("places", (), [])),
                                  (1, [(0,)], ("places", (), [])), (10, [(0, 9)], ("places", (), [])),
                                  (1, [(), (0,)], ("places", (0,), [(0, 1)])), (1, [(), ()], ("same", 0, 1)),
                                  (3, [(1,), (0,), (1,)], ("same", 0, 2)),
                                  (3, [(1,), (0, 2), (2,), (2,)], ("same", 2, 3)),
                                  (2, [(), (1,)], ("places", (1,), [(0, 1)])),
                                  (4, [(0, 1), (0, 1, 3)], ("places", (3,), [(0, 1)]))):
            with self.subTest(holes=holes, deck=deck):
                self.assertEqual(fewest_places(holes, deck), told)
        self.assertEqual(fewest_places(3, [(), (0,), (1,), (0, 1)])[:2], ("places", (0, 1)))
        self.assertEqual(fewest_places(3, [(0,), (1,), (2,)])[0], "places")
        self.assertEqual(len(fewest_places(3, [(0,), (1,), (2,)])[1]), 2)

    def test_all_small_decks(self):
        for holes, most in ((1, 3), (2, 4), (3, 3)):
            for deck in small_decks(holes, most):
                self.assert_told(holes, deck)

    def test_greater_decks(self):
        for holes in range(3, 9):
            for deck in some_decks(180 + holes, holes, 12, 6):
                self.assert_told(holes, deck)
        chance = random.Random(190)
        for turn in range(20):
            self.assert_told(5, chance.choices(words(5), k=8))

    def test_twelve_cards_of_ten_holes(self):
        # The fewest and the most places that twelve cards of ten holes may take.
        self.assert_told(10, [tuple(place for place in range(4) if card >> place & 1) for card in range(12)])
        single = [(place,) for place in range(10)] + [()]
        self.assert_told(10, single)
        self.assertEqual(fewest_places(10, single)[1], tuple(range(10)))
        self.assert_told(10, single + [(8, 9)])
        self.assert_told(10, random.Random(191).sample(words(10), 12))
        self.assert_told(10, [tuple(range(10))] + random.Random(192).sample(words(9), 10) + [tuple(range(10))])

    def test_somewhat_more_cards(self):
        self.assertEqual(fewest_places(8, words(8)[:60])[0], "places")
        told = fewest_places(6, words(6)[::-1])
        self.assertEqual(told[:2], ("places", tuple(range(6))))
        self.assertIs(shows_fewest(6, words(6)[::-1], told), True)

    def test_nothing_is_shared(self):
        for deck in ([], [(1,)], [(1,), (0,), (0, 2)], [(1,), (0,), (1,)]):
            self.assert_own(fewest_places, 3, deck)


class TestShowsFewest(OwnLists, unittest.TestCase):
    def test_all_things_of_small_decks(self):
        for holes, most in ((1, 3), (2, 3)):
            for deck in small_decks(holes, most):
                pairs = all_pairs(deck)
                for many in range(len(pairs) + 1):
                    for some in itertools.combinations(pairs, many):
                        for places in words(holes):
                            self.assertIs(shows_fewest(holes, deck, ("places", places, list(some))),
                                          shows_by_hand(holes, deck, places, list(some)))
                for i, j in itertools.product(range(-2, len(deck) + 2), repeat=2):
                    same = 0 <= i < j < len(deck) and deck[i] == deck[j]
                    self.assertIs(shows_fewest(holes, deck, ("same", i, j)), same)

    def test_told_ones_and_bent_ones(self):
        for holes in (3, 4, 5):
            for deck in some_decks(200 + holes, holes, 8, 8):
                kind, places, pairs = fewest_places(holes, deck)
                for word in words(holes):
                    self.assertIs(shows_fewest(holes, deck, ("places", word, list(pairs))),
                                  shows_by_hand(holes, deck, word, pairs))
                for at in range(len(pairs)):
                    left = pairs[:at] + pairs[at + 1:]
                    self.assertIs(shows_fewest(holes, deck, ("places", places, left)),
                                  shows_by_hand(holes, deck, places, left))
                if places:
                    for more in (all_pairs(deck), pairs[::-1], pairs + pairs):
                        self.assertIs(shows_fewest(holes, deck, ("places", places, more)), True)
                    self.assertIs(shows_fewest(holes, deck, ("places", places, [])), False)

    def test_no_fewer_places_and_no_more(self):
        deck = [(0,), (1,), (2,), ()]
        pairs = all_pairs(deck)
        self.assertIs(shows_fewest(4, deck, ("places", (0, 1, 2), pairs)), True)
        self.assertIs(shows_fewest(4, deck, ("places", (0, 1, 2, 3), pairs)), False)
        self.assertIs(shows_fewest(4, deck, ("places", (0, 1), pairs)), False)
        self.assertIs(shows_fewest(4, deck, ("places", (0, 1, 3), pairs)), False)
        # Each of the three places parts just one card from the blank one, so each of these pairs is needed.
        self.assertIs(shows_fewest(4, deck, ("places", (0, 1, 2), [(0, 3), (1, 3), (2, 3)])), True)
        self.assertIs(shows_fewest(4, deck, ("places", (0, 1, 2), [(0, 3), (1, 3), (0, 1)])), False)

    def test_places_of_none(self):
        for deck in ([], [(1,)]):
            self.assertIs(shows_fewest(3, deck, ("places", (), [])), True)
            for places, pairs in (((), [(0, 1)]), ((), [(0, 0)]), ((0,), []), ((1,), []), ((), ()), ((), None)):
                self.assertIs(shows_fewest(3, deck, ("places", places, pairs)), False)
        self.assertIs(shows_fewest(3, [(), (1,)], ("places", (), [])), False)
        self.assertIs(shows_fewest(3, [(), (1,)], ("places", (), [(0, 1)])), False)

    def test_two_cards_alike(self):
        deck = [(0,), (1,), (0,), (0, 1), (0,)]
        for i, j, same in ((0, 2, True), (0, 4, True), (2, 4, True), (0, 1, False), (2, 0, False), (4, 0, False),
                           (0, 0, False), (2, 2, False), (-5, 2, False), (0, -1, False), (-3, -1, False), (0, 5, False),
                           (0, 10 ** 20 - 1, False)):
            self.assertIs(shows_fewest(2, deck, ("same", i, j)), same)
        for told in ("", "Same", "same ", "torn", "places", "alike"):
            self.assertIs(shows_fewest(2, deck, (told, 0, 2)), False)
        for places in words(2):
            self.assertIs(shows_fewest(2, deck, ("places", places, all_pairs(deck))), False)
        self.assertIs(shows_fewest(2, [(0,), (1,)], ("same", 0, 1)), False)

    def test_one_part_that_is_none(self):
        deck = [(), (0,), (1,)]
        told = ("places", (0, 1), [(0, 1), (0, 2)])
        self.assertIs(shows_fewest(3, deck, told), True)
        odd = [None, True, False, -1, 3, 1.0, "", "Places", "0", b"", (), [], {}, (0,), [0], [(0, 1)], ((0, 1), (0, 2)),
               Unfriendly(), [None], [Unfriendly()], [[0, 1], [0, 2]], (Unfriendly(),)]
        for at in range(3):
            for number, thing in enumerate(odd):
                with self.subTest(at=at, number=number):
                    self.assertIs(shows_fewest(3, deck, told[:at] + (thing,) + told[at + 1:]), False)
        for places in ((1, 0), (0, 3), (-1, 0), (0, 0), (False, True), (0, True), (0, 1.0), [0, 1], (0, 1, 1), "01"):
            self.assertIs(shows_fewest(3, deck, ("places", places, [(0, 1), (0, 2)])), False)
        for pair in ((1, 0), (0, 0), (0, 3), (-1, 2), (0,), (0, 1, 2), (), [0, 1], None, "01", (False, True), (0, True),
                     (0.0, 1), ("0", "1"), (None, None), ((0, 1),), Unfriendly(), (Unfriendly(), 1), (0, Unfriendly())):
            for pairs in ([pair, (0, 1), (0, 2)], [(0, 1), (0, 2), pair]):
                self.assertIs(shows_fewest(3, deck, ("places", (0, 1), pairs)), False)
        for i, j in ((False, 1), (0, True), (None, 1), (0, None), ("0", 1), (0, "1"), (0, 1.0), (Unfriendly(), 1),
                     (0, Unfriendly()), ((0,), (1,)), ([], [])):
            self.assertIs(shows_fewest(3, [(), ()], ("same", i, j)), False)
        self.assertIs(shows_fewest(3, [(), ()], ("same", 0, 1)), True)

    def test_what_is_no_such_tuple(self):
        deck = [(), (0,), (1,)]
        told = ("places", (0, 1), [(0, 1), (0, 2)])
        for at, thing in enumerate((None, 0, True, "", "places", b"", (), [], {}, set(), list(told), told[:2], told[:1],
                                    told + (None,), told + ([],), (told,), [told], told[1:], told[::-1],
                                    ("Places",) + told[1:], ("place",) + told[1:], ("same",) + told[1:],
                                    ("places", told[2], told[1]), ("same", 0), ("same",), ("same", 0, 1, 2),
                                    iter(told), dict.fromkeys("abc"), fewest_places, tuple, Unfriendly(),
                                    (Unfriendly(),) * 3, (Unfriendly(),), (None,) * 1100, [None] * 1100)):
            with self.subTest(at=at):
                self.assertIs(shows_fewest(3, deck, thing), False)

    def test_great_lists(self):
        single = [(place,) for place in range(10)] + [()]
        pairs = all_pairs(single)
        great = (pairs * 21)[:1100]
        self.assertEqual(len(great), 1100)
        self.assertIs(shows_fewest(10, single, ("places", tuple(range(10)), great)), True)
        self.assertIs(shows_fewest(10, single, ("places", tuple(range(10)), [(0, 10)] * 1100)), False)
        deck = random.Random(210).sample(words(10), 12)
        kind, places, pairs = fewest_places(10, deck)
        self.assertIs(shows_fewest(10, deck, (kind, places, (all_pairs(deck) * 20)[:1100])), True)
        self.assertIs(shows_fewest(10, deck, (kind, tuple(range(1100)), pairs)), False)
        for many in range(len(places) + 1, 11):
            for more in itertools.islice(itertools.combinations(range(10), many), 3):
                self.assertIs(shows_fewest(10, deck, (kind, more, all_pairs(deck))), False)

    def test_nothing_is_shared(self):
        deck = [(), (0,), (1,)]
        self.assert_own(shows_fewest, 3, deck, ("places", (0, 1), [(0, 1), (0, 2)]))
        self.assert_own(shows_fewest, 3, [(), (0,), (1,)], ("places", (0, 1), [(0, 1), [0, 2]]))
        self.assert_own(shows_fewest, 3, [(), (0,), ()], ("same", 0, 2))


if __name__ == "__main__":
    unittest.main()
