"""Points 7 to 10, and points 2 to 4 as far as they speak of rows of passes."""

import inspect
import itertools
import random
import unittest

from common import OwnLists, words
from needledeck import passes
from needledeck.passes import ahead, alike, done, idle, sorting, thinned

SIDES = ("front", "back")


def drops(needles, card):
    return set(needles) <= set(card)


def by_hand(deck, row):
    lying = list(deck)
    for needles, side in row:
        dropped = [card for card in lying if drops(needles, card)]
        kept = [card for card in lying if not drops(needles, card)]
        lying = dropped + kept if side == "front" else kept + dropped
    return lying


def all_passes(holes):
    return list(itertools.product(words(holes), SIDES))


def all_rows(holes, many):
    """All rows of at most so many passes."""
    return [list(row) for size in range(many + 1) for row in itertools.product(all_passes(holes), repeat=size)]


def some_rows(seed, holes, many, rows):
    """Rows of so many passes, with few needles, so that most of their passes part some cards."""
    chance = random.Random(seed)
    few = [word for word in words(holes) if len(word) <= 2]
    return [[(chance.choice(few), chance.choice(SIDES)) for turn in range(many)] for row in range(rows)]


def two_cards(holes, row):
    """What a row makes of every deck of two cards: that is all it does to any deck."""
    return [by_hand(deck, row) for deck in itertools.product(words(holes), repeat=2)]


def comes_ahead(holes, row):
    """For every two words whether the one comes ahead by a row, whatever lay ahead: the last pass tells first."""
    keys = [[drops(needles, word) != (side == "front") for needles, side in reversed(row)] for word in words(holes)]
    return [one < other for one, other in itertools.product(keys, repeat=2)]


def without(row, at):
    return row[:at] + row[at + 1:]


def is_part(some, row):
    """Whether some are passes of a row in their order."""
    left = iter(row)
    return all(any(one == other for other in left) for one in some)


class TestInterface(unittest.TestCase):
    def test_names_and_arguments(self):
        asked = {"done": ["deck", "row"], "ahead": ["row", "one", "other"], "alike": ["holes", "row", "other"],
                 "idle": ["holes", "row"], "thinned": ["holes", "row"], "sorting": ["places"]}
        for name, arguments in asked.items():
            with self.subTest(name=name):
                self.assertEqual(list(inspect.signature(getattr(passes, name)).parameters), arguments)


class TestDone(OwnLists, unittest.TestCase):
    def assert_done(self, deck, row, told):
        behind = done(deck, row)
        self.assertIs(type(behind), list)
        self.assertEqual(behind, told)

    def test_front_and_back(self):
        deck = [(2,), (0, 1), (), (1,), (0,)]
        self.assert_done(deck, [((0,), "front")], [(0, 1), (0,), (2,), (), (1,)])
        self.assert_done(deck, [((0,), "back")], [(2,), (), (1,), (0, 1), (0,)])
        self.assert_done(deck, [((0, 1), "front")], [(0, 1), (2,), (), (1,), (0,)])
        self.assert_done(deck, [((0, 1), "back")], [(2,), (), (1,), (0,), (0, 1)])

    def test_pass_by_pass(self):
        deck = [(2,), (0, 1), (), (1,), (0,)]
        self.assert_done(deck, [((0,), "back"), ((1,), "front")], [(1,), (0, 1), (2,), (), (0,)])
        self.assert_done(deck, [((1,), "front"), ((0,), "back")], [(1,), (2,), (), (0, 1), (0,)])

    def test_needles_of_none_leave_the_deck_as_it_lay(self):
        deck = [(1,), (0,), (), (0, 1)]
        for side in SIDES:
            self.assert_done(deck, [((), side)], deck)
            self.assert_done(deck, [((0,), "back"), ((), side)], [(1,), (), (0,), (0, 1)])
            self.assert_done(deck, [((), side), ((0,), "back")], [(1,), (), (0,), (0, 1)])

    def test_like_cards(self):
        deck = [(0,), (1,), (0,), (), (1,), (0,)]
        self.assert_done(deck, [((0,), "front")], [(0,), (0,), (0,), (1,), (), (1,)])
        self.assert_done(deck, [((0,), "back")], [(1,), (), (1,), (0,), (0,), (0,)])
        self.assert_done([(3,)] * 4, [((3,), "back"), ((0,), "front")], [(3,)] * 4)

    def test_a_row_of_none_and_a_deck_of_none(self):
        self.assert_done([(1,), (0,)], [], [(1,), (0,)])
        self.assert_done([], [((0,), "front"), ((), "back")], [])
        self.assert_done([], [], [])

    def test_small_decks_and_rows_as_by_hand(self):
        decks = [list(deck) for many in range(4) for deck in itertools.product(words(2), repeat=many)]
        for row in all_rows(2, 2):
            for deck in decks:
                self.assert_done(deck, row, by_hand(deck, row))

    def test_sixty_cards_twelve_passes_sixty_holes(self):
        chance = random.Random(7)
        for turn in range(20):
            deck = [tuple(sorted(chance.sample(range(60), chance.randrange(20, 61)))) for card in range(60)]
            row = [(tuple(sorted(chance.sample(range(60), chance.randrange(3)))), chance.choice(SIDES))
                   for at in range(12)]
            self.assert_done(deck, row, by_hand(deck, row))

    def test_a_rows_parts_one_behind_the_other(self):
        deck = random.Random(8).choices(words(3), k=25)
        for row in some_rows(8, 3, 12, 10):
            for at in range(len(row) + 1):
                self.assertEqual(done(done(deck, row[:at]), row[at:]), done(deck, row))

    def test_nothing_is_shared(self):
        deck = [(0,), (1,), (0, 1), (0,)]
        for row in ([], [((), "front")], [((), "back")], [((0,), "back"), ((5,), "front")]):
            self.assert_own(done, list(deck), list(row))
        self.assert_own(done, [], [])


class TestAhead(OwnLists, unittest.TestCase):
    def test_the_last_pass_that_parts_them_tells(self):
        self.assertEqual(ahead([((0,), "front")], (0,), (1,)), "one")
        self.assertEqual(ahead([((0,), "back")], (0,), (1,)), "other")
        self.assertEqual(ahead([((1,), "front")], (0,), (1,)), "other")
        self.assertEqual(ahead([((1,), "back")], (0,), (1,)), "one")
        self.assertEqual(ahead([((0,), "front"), ((0,), "back")], (0,), (1,)), "other")
        self.assertEqual(ahead([((0,), "back"), ((0,), "front")], (0,), (1,)), "one")
        self.assertEqual(ahead([((0,), "front"), ((2,), "back"), ((), "back")], (0, 2), (1, 2)), "one")

    def test_laid_where_no_pass_parts_them(self):
        self.assertEqual(ahead([], (0,), (1,)), "laid")
        self.assertEqual(ahead([((), "front"), ((2,), "back"), ((0, 1), "front")], (0,), (1,)), "laid")
        self.assertEqual(ahead([((2,), "front")], (0, 2), (1, 2)), "laid")

    def test_like_cards_are_laid(self):
        for row in some_rows(9, 3, 6, 20):
            for card in words(3):
                self.assertEqual(ahead(row, card, card), "laid")

    def assert_as_decks_tell(self, row, one, other):
        told = {"one": ([one, other], [one, other]), "other": ([other, one], [other, one]),
                "laid": ([one, other], [other, one])}
        self.assertEqual((by_hand([one, other], row), by_hand([other, one], row)), told[ahead(row, one, other)])

    def test_as_both_decks_of_the_two_tell(self):
        for row in all_rows(3, 2) + some_rows(10, 3, 5, 200):
            for one, other in itertools.permutations(words(3), 2):
                self.assert_as_decks_tell(row, one, other)

    def test_twelve_passes_of_sixty_holes(self):
        chance = random.Random(11)
        for turn in range(200):
            one, other = [tuple(sorted(chance.sample(range(60), 50))) for card in range(2)]
            row = [(tuple(sorted(chance.sample(range(60), 2))), chance.choice(SIDES)) for at in range(12)]
            self.assert_as_decks_tell(row, one, other)

    def test_nothing_is_shared(self):
        self.assert_own(ahead, [((0,), "back"), ((), "front")], (0,), (1,))


class TestAlike(OwnLists, unittest.TestCase):
    def assert_judged(self, holes, row, other, same):
        told = alike(holes, row, other)
        self.assertIs(type(told), tuple)
        if same:
            self.assertEqual(told, ("alike",))
        else:
            word, first, second = told
            self.assertEqual(word, "apart")
            self.assertIn(first, words(holes))
            self.assertIn(second, words(holes))
            self.assertNotEqual(done([first, second], row), done([first, second], other))
            self.assertNotEqual(by_hand([first, second], row), by_hand([first, second], other))

    def test_by_hand(self):
        front, back = ((0,), "front"), ((0,), "back")
        for holes in (1, 2, 5, 8):
            for row, other, same in (([], [], True), ([front], [], False), ([], [back], False),
                                     ([front], [back], False), ([front], [front], True),
                                     ([front, front], [front], True), ([back, front], [front], True),
                                     ([front], [back, front], True), ([front, back], [front], False),
                                     ([((), "front")], [], True), ([], [((), "back")], True),
                                     ([((), "front")], [((), "back")], True),
                                     ([front, ((), "back")], [((), "front"), front], True)):
                with self.subTest(holes=holes, row=row, other=other):
                    self.assert_judged(holes, row, other, same)

    def test_where_one_row_leaves_the_two_as_laid(self):
        # The row [front] puts (0,) ahead of (): only the deck that lies otherwise shows it.
        self.assertEqual(alike(1, [((0,), "front")], []), ("apart", (), (0,)))
        self.assertEqual(alike(1, [], [((0,), "front")]), ("apart", (), (0,)))
        self.assertEqual(alike(1, [((0,), "back")], []), ("apart", (0,), ()))
        self.assertEqual(alike(1, [], [((0,), "back")]), ("apart", (0,), ()))

    def test_a_row_with_itself_and_with_a_pass_told_twice(self):
        for holes, many in ((3, 6), (8, 6)):
            for row in some_rows(12, holes, many, 6):
                self.assert_judged(holes, row, list(row), True)
                for at in range(many):
                    self.assert_judged(holes, row, row[:at] + [row[at]] + row[at:], True)
                    self.assert_judged(holes, row[:at] + [((), "back")] + row[at:], row, True)

    def test_all_short_rows_as_all_decks_of_two_cards_tell(self):
        for holes, many in ((1, 3), (2, 2), (3, 1)):
            rows = all_rows(holes, many)
            made = [two_cards(holes, row) for row in rows]
            for at, row in enumerate(rows):
                for past, other in enumerate(rows):
                    self.assert_judged(holes, row, other, made[at] == made[past])

    def test_alike_rows_put_greater_decks_alike(self):
        decks = [list(deck) for deck in itertools.product(words(2), repeat=3)]
        decks += [list(deck) for deck in itertools.permutations(words(2))]
        rows = all_rows(2, 2)
        made = [[by_hand(deck, row) for deck in decks] for row in rows]
        for at, row in enumerate(rows):
            for past, other in enumerate(rows):
                self.assertEqual(alike(2, row, other) == ("alike",), made[at] == made[past])

    def test_rows_that_unlike_orders_of_passes_make(self):
        for row in some_rows(13, 4, 4, 5):
            made = two_cards(4, row)
            for other in itertools.permutations(row):
                self.assert_judged(4, row, list(other), made == two_cards(4, other))

    def test_a_difference_in_one_pair_of_eight_holes(self):
        whole = tuple(range(8))
        for out in range(8):
            word = tuple(place for place in range(8) if place != out)
            row = [(whole, "back"), (word, "front")]
            self.assert_judged(8, row, [(word, "front")], False)
            self.assert_judged(8, row + [((out,), "back")], [(word, "front"), ((out,), "back")], True)

    def test_twelve_passes_of_eight_holes(self):
        for row in some_rows(14, 8, 12, 4):
            made = comes_ahead(8, row)
            for other in [[row[11]] + row[:11], row[::-1]] + [without(row, at) for at in range(12)]:
                self.assert_judged(8, row, other, made == comes_ahead(8, other))

    def test_nothing_is_shared(self):
        row = [((0,), "back"), ((), "front")]
        self.assert_own(alike, 3, list(row), [((0,), "back")])
        self.assert_own(alike, 3, list(row), [((1,), "back")])
        self.assertEqual(alike(3, row, row), ("alike",))
        self.assertEqual(row, [((0,), "back"), ((), "front")])


class TestIdleAndThinned(OwnLists, unittest.TestCase):
    def idle_by_hand(self, holes, row):
        made = two_cards(holes, row)
        return [at for at in range(len(row)) if two_cards(holes, without(row, at)) == made]

    def assert_idle(self, holes, row):
        told = idle(holes, row)
        self.assertIs(type(told), list)
        self.assertEqual(told, self.idle_by_hand(holes, row))

    def assert_thinned(self, holes, row):
        told = thinned(holes, row)
        self.assertIs(type(told), list)
        self.assertTrue(is_part(told, row))
        self.assertEqual(two_cards(holes, told), two_cards(holes, row))
        self.assertEqual(self.idle_by_hand(holes, told), [])
        self.assertEqual(idle(holes, told), [])

    def test_by_hand(self):
        front, back, none = ((0,), "front"), ((0,), "back"), ((), "front")
        for row, numbers, left in (([], [], []), ([none], [0], []), ([front], [], [front]),
                                   ([front, back], [0], [back]), ([front, front], [0, 1], [front]),
                                   ([none, front, none], [0, 2], [front]),
                                   ([back, front, back], [0, 1], [back])):
            for holes in (1, 4, 8):
                with self.subTest(row=row, holes=holes):
                    self.assertEqual(idle(holes, row), numbers)
                    self.assertEqual(thinned(holes, row), left)

    def test_passes_that_are_idle_each_alone_but_not_all(self):
        twice = [((0,), "back"), ((1,), "back"), ((0,), "back"), ((1,), "back")]
        self.assert_idle(2, twice)
        self.assert_thinned(2, twice)
        self.assertEqual(thinned(2, twice), twice[2:])

    def test_all_short_rows(self):
        for holes, many in ((1, 3), (2, 2), (2, 3)):
            for row in all_rows(holes, many):
                self.assert_idle(holes, row)
                self.assert_thinned(holes, row)

    def test_longer_rows(self):
        for holes, many, rows in ((2, 12, 30), (3, 8, 30), (3, 12, 20), (4, 12, 5)):
            for row in some_rows(15, holes, many, rows):
                self.assert_idle(holes, row)
                self.assert_thinned(holes, row)

    def test_twelve_passes_of_eight_holes(self):
        row = [((place,), side) for place, side in zip((0, 1, 2, 0, 3, 4, 5, 4, 6, 7, 1, 7), SIDES * 6)]
        self.assertEqual(idle(8, row), [0, 1, 5, 9])
        self.assertEqual(thinned(8, row), [row[at] for at in (2, 3, 4, 6, 7, 8, 10, 11)])
        sorts = [((place,), "back") for place in range(8)]
        self.assertEqual(idle(8, sorts), [])
        self.assertEqual(thinned(8, sorts), sorts)

    def test_nothing_is_shared(self):
        for row in ([], [((0,), "back")], [((), "front"), ((0,), "back"), ((0,), "front")]):
            self.assert_own(idle, 3, list(row))
            self.assert_own(thinned, 3, list(row))


class TestSorting(OwnLists, unittest.TestCase):
    def test_the_row(self):
        for places, row in (([], []), ([3], [((3,), "back")]),
                            ([2, 0, 5], [((5,), "back"), ((0,), "back"), ((2,), "back")]),
                            ([0, 1], [((1,), "back"), ((0,), "back")]), ([59, 0], [((0,), "back"), ((59,), "back")])):
            with self.subTest(places=places):
                told = sorting(places)
                self.assertIs(type(told), list)
                self.assertEqual(told, row)

    def test_the_deck_behind_it(self):
        deck = [(0, 1), (1,), (0,), (), (1, 2), (0,), (2,)]
        self.assertEqual(done(deck, sorting([0])), [(1,), (), (1, 2), (2,), (0, 1), (0,), (0,)])
        self.assertEqual(done(deck, sorting([1, 0])), [(), (2,), (0,), (0,), (1,), (1, 2), (0, 1)])
        self.assertEqual(done(deck, sorting([0, 1])), [(), (2,), (1,), (1, 2), (0,), (0,), (0, 1)])
        self.assertEqual(done(deck, sorting([])), deck)

    def assert_sorted(self, deck, places):
        behind = done(deck, sorting(places))
        # Python's own sorting, too, leaves as they lay those that are notched alike at the places.
        self.assertEqual(behind, sorted(deck, key=lambda card: [place in card for place in places]))
        for one, other in itertools.combinations(behind, 2):
            parting = [place for place in places if (place in one) != (place in other)]
            if parting:
                self.assertNotIn(parting[0], one)

    def test_all_places_of_three_holes(self):
        chance = random.Random(16)
        for many in range(4):
            for places in itertools.permutations(range(3), many):
                self.assert_sorted(words(3) + words(3)[::-1], list(places))
                self.assert_sorted(chance.choices(words(3), k=20), list(places))
                self.assert_sorted(chance.choices(words(5), k=30), list(places))

    def test_twelve_places_of_sixty(self):
        chance = random.Random(17)
        deck = [tuple(sorted(chance.sample(range(60), 30))) for card in range(60)]
        for turn in range(20):
            self.assert_sorted(deck, chance.sample(range(60), 12))

    def test_nothing_is_shared(self):
        for places in ([], [4], [2, 0, 1]):
            self.assert_own(sorting, list(places))


if __name__ == "__main__":
    unittest.main()
