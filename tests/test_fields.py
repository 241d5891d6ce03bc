"""Points 28 and 29, and points 2 to 4 as far as they speak of fields of an edge."""

import inspect
import itertools
import random
import unittest

from common import OwnLists, words
from needledeck import fields
from needledeck.codes import plain, words_of
from needledeck.decks import needled
from needledeck.errors import NoValue
from needledeck.fields import begins, edge, find, written_as

LAYOUT = [("tree", 4, [(0, 1), (0, 2), (1, 2), (3,)]), ("leaf", 3, [(0,), (1,), ()]), ("root", 2, [(0, 1), (1,)])]


def eight_fields():
    """Eight fields with sixty holes together, each with as many words as are of half its places, at most forty."""
    counts = (10, 8, 8, 8, 8, 6, 6, 6)
    return [(name, count, words_of(count, count // 2)[:40]) for name, count in zip("abcdefgh", counts)]


def any_values(chance, layout, many):
    values = [(name, number) for name, count, code in layout for number in range(len(code))]
    return chance.sample(values, min(many, len(values)))


def one_in_each(chance, layout):
    """At most one value in each field."""
    return [(name, chance.randrange(len(code))) for name, count, code in layout if chance.randrange(4)]


def notches(layout, values):
    """The holes of the edge that are notched for values, counted field by field."""
    found = set()
    begin = 0
    for name, count, code in layout:
        for field, number in values:
            if field == name:
                found |= {begin + place for place in code[number]}
        begin += count
    return tuple(sorted(found))


class TestInterface(unittest.TestCase):
    def test_names_and_arguments(self):
        asked = {"edge": ["layout"], "begins": ["layout"], "written_as": ["layout", "values"],
                 "find": ["layout", "cards", "question"]}
        for name, arguments in asked.items():
            with self.subTest(name=name):
                self.assertEqual(list(inspect.signature(getattr(fields, name)).parameters), arguments)


class TestEdge(OwnLists, unittest.TestCase):
    def test_edge_and_begins(self):
        for layout, holes, begin in ((LAYOUT, 9, [0, 4, 7]), (LAYOUT[1:], 5, [0, 3]), (LAYOUT[:1], 4, [0]),
                                     ([], 0, []), (LAYOUT[::-1], 9, [0, 2, 5]), ([("a", 60, [])], 60, [0]),
                                     (eight_fields(), 60, [0, 10, 18, 26, 34, 42, 48, 54]),
                                     ([(name, 1, [(0,)]) for name in "abcdefgh"], 8, list(range(8)))):
            with self.subTest(layout=layout):
                self.assertIs(type(edge(layout)), int)
                self.assertEqual(edge(layout), holes)
                self.assertIs(type(begins(layout)), list)
                self.assertEqual(begins(layout), begin)

    def test_nothing_is_shared(self):
        for ask in (edge, begins):
            self.assert_own(ask, [(name, count, list(code)) for name, count, code in LAYOUT])
            self.assert_own(ask, [])


class TestWrittenAs(OwnLists, unittest.TestCase):
    def test_by_hand(self):
        for values, word in (([], ()), ([("tree", 0)], (0, 1)), ([("tree", 3)], (3,)), ([("leaf", 0)], (4,)),
                             ([("leaf", 2)], ()), ([("root", 0)], (7, 8)), ([("root", 1)], (8,)),
                             ([("root", 1), ("tree", 1)], (0, 2, 8)), ([("tree", 1), ("root", 1)], (0, 2, 8)),
                             ([("leaf", 1), ("tree", 2), ("root", 0)], (1, 2, 5, 7, 8)),
                             # Several in one field.
                             ([("tree", 0), ("tree", 1)], (0, 1, 2)), ([("tree", 3), ("leaf", 1), ("tree", 0)], (0, 1, 3, 5)),
                             ([("leaf", 0), ("leaf", 1), ("leaf", 2)], (4, 5)), ([("root", 0), ("root", 1)], (7, 8))):
            with self.subTest(values=values):
                self.assertIs(type(written_as(LAYOUT, values)), tuple)
                self.assertEqual(written_as(LAYOUT, values), word)
        self.assertEqual(written_as([], []), ())

    def test_any_values(self):
        chance = random.Random(220)
        for turn in range(100):
            values = any_values(chance, eight_fields(), 8)
            self.assertEqual(written_as(eight_fields(), values), notches(eight_fields(), values))
            values = any_values(chance, LAYOUT, chance.randrange(9))
            self.assertEqual(written_as(LAYOUT, values), notches(LAYOUT, values))

    def test_what_is_not_there(self):
        for value in (("tre", 0), ("trees", 0), ("", 0), ("Tree", 0), ("x", 0), ("tree", 4), ("tree", -1),
                      ("tree", -4), ("leaf", 3), ("leaf", -3), ("root", 2), ("root", 10 ** 20 - 1), ("none", 0)):
            for values in ([value], [("tree", 1), value], [value, ("root", 0)], [("leaf", 0), value, ("leaf", 1)]):
                with self.subTest(values=values):
                    with self.assertRaises(NoValue):
                        written_as(LAYOUT, values)
        for layout in ([], [("x", 3, [])]):
            with self.assertRaises(NoValue):
                written_as(layout, [("x", 0)])

    def test_nothing_is_shared(self):
        layout = [(name, count, list(code)) for name, count, code in LAYOUT]
        self.assert_own(written_as, layout, [("tree", 1), ("root", 1)])
        self.assert_own(written_as, [], [])


class TestFind(OwnLists, unittest.TestCase):
    def assert_found(self, layout, cards, question):
        told = find(layout, cards, question)
        self.assertIs(type(told), tuple)
        found, wrong = told
        self.assertEqual((type(found), type(wrong)), (list, list))
        self.assertEqual(found, [at for at, card in enumerate(cards) if set(question) <= set(card)])
        needles = set(notches(layout, question))
        drops = [at for at, card in enumerate(cards) if needles <= set(notches(layout, card))]
        self.assertEqual(wrong, [at for at in drops if at not in found])
        return wrong

    def test_by_hand(self):
        cards = [[("tree", 0)], [("tree", 1), ("leaf", 0)], [], [("tree", 0), ("tree", 1), ("root", 0)],
                 [("tree", 2), ("leaf", 0), ("leaf", 1), ("root", 1)]]
        for question, told in (([], ([0, 1, 2, 3, 4], [])), ([("tree", 0)], ([0, 3], [])),
                               ([("tree", 2)], ([4], [3])), ([("leaf", 2)], ([], [0, 1, 2, 3, 4])),
                               ([("root", 1)], ([4], [3])), ([("leaf", 0)], ([1, 4], [])),
                               ([("leaf", 0), ("tree", 1)], ([1], [])), ([("tree", 3)], ([], [])),
                               ([("root", 1), ("tree", 0)], ([], [3])),
                               ([("leaf", 1), ("leaf", 0), ("tree", 2)], ([4], []))):
            with self.subTest(question=question):
                self.assertEqual(find(LAYOUT, cards, question), told)
        self.assertEqual(find(LAYOUT, [], [("tree", 0)]), ([], []))
        self.assertEqual(find([], [[], []], []), ([0, 1], []))

    def test_any_cards(self):
        chance = random.Random(221)
        some_wrong = False
        for turn in range(60):
            layout = [LAYOUT, eight_fields()[4:]][turn & 1]
            cards = [any_values(chance, layout, chance.randrange(9)) for card in range(40)]
            for size in (0, 1, 1, 2, 3):
                some_wrong = bool(self.assert_found(layout, cards, any_values(chance, layout, size))) or some_wrong
        self.assertTrue(some_wrong)

    def test_as_needling_tells(self):
        chance = random.Random(222)
        for turn in range(30):
            cards = [any_values(chance, LAYOUT, chance.randrange(6)) for card in range(40)]
            question = any_values(chance, LAYOUT, 2)
            deck = [written_as(LAYOUT, card) for card in cards]
            found, wrong = find(LAYOUT, cards, question)
            self.assertEqual([deck[at] for at in sorted(found + wrong)],
                             needled(deck, written_as(LAYOUT, question))[0])

    def test_nothing_is_wrong_by_plain_codes(self):
        chance = random.Random(223)
        layout = eight_fields()
        for name, count, code in layout:
            self.assertEqual(plain(code), ("plain",))
        for turn in range(30):
            cards = [one_in_each(chance, layout) for card in range(40)]
            for question in (one_in_each(chance, layout)[:2], chance.choice(cards)[:3], []):
                self.assertEqual(self.assert_found(layout, cards, question), [])

    def test_like_numbers_in_other_fields_are_other_values(self):
        layout = [("a", 2, [(0,), (1,)]), ("b", 2, [(0,), (1,)])]
        cards = [[("a", 0)], [("b", 0)], [("a", 1), ("b", 0)], [("a", 0), ("b", 1)]]
        self.assertEqual(find(layout, cards, [("a", 0)]), ([0, 3], []))
        self.assertEqual(find(layout, cards, [("b", 0)]), ([1, 2], []))
        self.assertEqual(find(layout, cards, [("b", 0), ("a", 1)]), ([2], []))

    def test_what_is_not_there(self):
        good, bad = [("tree", 0)], [[("tree", 4)], [("x", 0)], [("tree", 0), ("leaf", -1)]]
        for values in bad:
            for cards, question in (([values], []), ([good, values], good), ([values, good], good), ([], values),
                                    ([good], values), ([good, good], values), ([values], values)):
                with self.subTest(cards=cards, question=question):
                    with self.assertRaises(NoValue):
                        find(LAYOUT, cards, question)

    def test_the_cards_are_looked_at_ahead_of_the_question(self):
        class Asked(list):
            def __iter__(self):
                raise RuntimeError("asked")

        with self.assertRaises(NoValue):
            find(LAYOUT, [[("tree", 0)], [("x", 0)]], Asked([("tree", 0)]))

    def test_small_layouts_by_all_questions(self):
        layout = [("a", 2, words(2)), ("b", 1, [(0,)])]
        values = [("a", number) for number in range(4)] + [("b", 0)]
        cards = [list(some) for many in range(3) for some in itertools.combinations(values, many)]
        for question in cards:
            self.assert_found(layout, cards, question)

    def test_nothing_is_shared(self):
        layout = [(name, count, list(code)) for name, count, code in LAYOUT]
        self.assert_own(find, layout, [[("tree", 0)], [("tree", 1), ("tree", 0)], []], [("tree", 2)])
        layout = [(name, count, list(code)) for name, count, code in LAYOUT]
        self.assert_own(find, layout, [], [])


if __name__ == "__main__":
    unittest.main()
