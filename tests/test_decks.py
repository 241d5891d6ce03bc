"""Point 6, and points 2 and 3 as far as they speak of decks."""

import inspect
import itertools
import unittest

from needledeck import decks
from needledeck.decks import needled


def words_of_three():
    return [word for many in range(4) for word in itertools.combinations(range(3), many)]


class TestNeedled(unittest.TestCase):
    def assert_needled(self, deck, needles, drops, kept):
        told = needled(deck, needles)
        self.assertIs(type(told), tuple)
        self.assertEqual([type(part) for part in told], [list, list])
        self.assertEqual(told, (drops, kept))

    def test_name_and_arguments(self):
        self.assertEqual(list(inspect.signature(decks.needled).parameters), ["deck", "needles"])

    def test_what_drops_and_what_is_kept_as_it_lay(self):
        deck = [(2, 3), (0, 1), (1,), (), (0, 1, 2), (0,), (1, 3)]
        self.assert_needled(deck, (1,), [(0, 1), (1,), (0, 1, 2), (1, 3)], [(2, 3), (), (0,)])
        self.assert_needled(deck, (0, 1), [(0, 1), (0, 1, 2)], [(2, 3), (1,), (), (0,), (1, 3)])
        self.assert_needled(deck, (3,), [(2, 3), (1, 3)], [(0, 1), (1,), (), (0, 1, 2), (0,)])
        self.assert_needled(deck, (0, 1, 2, 3), [], deck)
        self.assert_needled(deck, (7,), [], deck)

    def test_the_order_is_not_that_of_words(self):
        self.assert_needled([(1, 2), (0, 1), (2,), (0,)], (1,), [(1, 2), (0, 1)], [(2,), (0,)])
        self.assert_needled([(0, 1), (1, 2), (0,), (2,)], (1,), [(0, 1), (1, 2)], [(0,), (2,)])

    def test_like_cards_each_by_itself(self):
        deck = [(1,), (0,), (1,), (0, 1), (0,), (1,)]
        self.assert_needled(deck, (1,), [(1,), (1,), (0, 1), (1,)], [(0,), (0,)])
        self.assert_needled([(), (), ()], (0,), [], [(), (), ()])
        self.assert_needled([(4,)] * 60, (4,), [(4,)] * 60, [])

    def test_needles_of_none_let_all_drop(self):
        deck = [(2,), (), (0, 1), (2,)]
        self.assert_needled(deck, (), deck, [])

    def test_the_deck_of_no_cards(self):
        self.assert_needled([], (), [], [])
        self.assert_needled([], (0, 5), [], [])

    def test_sixty_cards_of_sixty_holes(self):
        deck = [tuple(range(first, 60)) for first in range(60)]
        self.assert_needled(deck, (0,), deck[:1], deck[1:])
        self.assert_needled(deck, (59,), deck, [])
        self.assert_needled(deck, (30, 59), deck[:31], deck[31:])
        self.assert_needled(deck, tuple(range(60)), deck[:1], deck[1:])

    def test_all_small_decks(self):
        for many in range(4):
            for deck in itertools.product(words_of_three(), repeat=many):
                for needles in words_of_three():
                    self.assert_needled(list(deck), needles,
                                        [card for card in deck if set(needles) <= set(card)],
                                        [card for card in deck if not set(needles) <= set(card)])


class TestNothingIsShared(unittest.TestCase):
    def test_the_deck_stays_as_it_was(self):
        for needles in ((), (0,), (1,), (0, 1), (5,)):
            with self.subTest(needles=needles):
                deck = [(0,), (1,), (0, 1), (0,)]
                needled(deck, needles)
                self.assertEqual(deck, [(0,), (1,), (0, 1), (0,)])

    def test_a_change_of_what_was_told_leaves_the_deck(self):
        for needles in ((), (0,), (5,)):
            with self.subTest(needles=needles):
                deck = [(0,), (1,), (0, 1)]
                drops, kept = needled(deck, needles)
                self.assertIsNot(drops, deck)
                self.assertIsNot(kept, deck)
                self.assertIsNot(drops, kept)
                before = needled(deck, needles)
                drops.append((7,))
                kept.insert(0, (6,))
                self.assertEqual(deck, [(0,), (1,), (0, 1)])
                drops.clear()
                kept.clear()
                self.assertEqual(deck, [(0,), (1,), (0, 1)])
                self.assertEqual(needled(deck, needles), before)

    def test_a_change_of_the_deck_leaves_what_was_told(self):
        for needles, told in (((), ([(0,), (1,)], [])), ((0,), ([(0,)], [(1,)])), ((5,), ([], [(0,), (1,)]))):
            with self.subTest(needles=needles):
                deck = [(0,), (1,)]
                before = needled(deck, needles)
                deck.append((0, 5))
                deck[0] = (3,)
                self.assertEqual(before, told)

    def test_no_list_stands_in_two_places(self):
        drops, kept = needled([], ())
        drops.append((0,))
        self.assertEqual(kept, [])
        self.assertEqual(needled([], ()), ([], []))


if __name__ == "__main__":
    unittest.main()
