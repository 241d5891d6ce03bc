"""Points 18 to 22, and points 2 to 4 as far as they speak of fields cut again."""

import inspect
import itertools
import random
import unittest

from common import OwnLists, Unfriendly, words
from needledeck import again
from needledeck.again import folded, next_cut, often, shows_least, shows_most_often, written

GREATEST = 10 ** 20 - 1
JUDGES = (shows_least, shows_most_often)


def ordered(holes):
    return sorted(words(holes))


def all_readings(holes, values):
    return [list(reading) for reading in itertools.product(range(values), repeat=2 ** holes)]


def some_readings(seed, holes, values, many):
    chance = random.Random(seed)
    return [[chance.randrange(values) for word in range(2 ** holes)] for reading in range(many)]


def beyond_all(holes, reading, word, value):
    """The words that show a value, in which a word lies within."""
    return [other for other, shown in zip(ordered(holes), reading) if shown == value and set(word) <= set(other)]


def goes(holes, reading, values, word, rows):
    """Whether so many rows go surely from a word on, by the words of point 19."""
    if rows == 0:
        return True
    shown = reading[ordered(holes).index(word)]
    return all(any(goes(holes, reading, values, other, rows - 1)
                   for other in beyond_all(holes, reading, word, value))
               for value in range(values) if value != shown)


def often_by_hand(holes, reading, values):
    return [max(rows for rows in range(holes + 1) if goes(holes, reading, values, word, rows))
            for word in ordered(holes)]


def often_by_sets(holes, reading, values):
    """The same numbers by another way, for greater fields: words by their sets, row by row."""
    sets = [frozenset(word) for word in ordered(holes)]
    upper = [{value: [at for at, other in enumerate(sets) if one <= other and reading[at] == value]
              for value in range(values)} for one in sets]
    told = [0] * len(sets)
    left = set(range(len(sets)))
    for rows in range(1, holes + 1):
        left = {at for at in left if all(any(told[other] >= rows - 1 for other in upper[at][value])
                                         for value in range(values) if value != reading[at])}
        for at in left:
            told[at] = rows
    return told


def at_least(holes, reading, values, numbers):
    """Point 20's words, one by one."""
    told = dict(zip(ordered(holes), numbers))
    for word, shown in zip(ordered(holes), reading):
        if told[word] > 0:
            for value in range(values):
                if value != shown and not any(told[other] >= told[word] - 1
                                              for other in beyond_all(holes, reading, word, value)):
                    return False
    return True


def at_most(holes, reading, values, numbers):
    """Point 20's words, one by one."""
    told = dict(zip(ordered(holes), numbers))
    return all(any(all(told[other] < told[word] for other in beyond_all(holes, reading, word, value))
                   for value in range(values) if value != shown)
               for word, shown in zip(ordered(holes), reading))


class TestInterface(unittest.TestCase):
    def test_names_and_arguments(self):
        asked = {"next_cut": ["holes", "reading", "word", "value"], "often": ["holes", "reading", "values"],
                 "shows_least": ["holes", "reading", "values", "thing"],
                 "shows_most_often": ["holes", "reading", "values", "thing"],
                 "written": ["holes", "reading", "numbers", "word", "row"], "folded": ["k"]}
        for name, arguments in asked.items():
            with self.subTest(name=name):
                self.assertEqual(list(inspect.signature(getattr(again, name)).parameters), arguments)


class TestNextCut(OwnLists, unittest.TestCase):
    def assert_cut(self, holes, reading, word, value):
        told = next_cut(holes, reading, word, value)
        self.assertIs(type(told), tuple)
        fit = beyond_all(holes, reading, word, value)
        if fit:
            kind, cut = told
            self.assertEqual(kind, "cut")
            self.assertIn(cut, fit)
            self.assertEqual(len(cut), min(map(len, fit)))
            if word in fit:
                self.assertEqual(cut, word)
        else:
            self.assertEqual(told, ("never",))

    def test_by_hand(self):
        # The words of two holes: (), (0,), (0, 1), (1,).
        reading = [0, 1, 2, 0]
        for word, value, told in (((), 0, ("cut", ())), ((), 1, ("cut", (0,))), ((), 2, ("cut", (0, 1))),
                                  ((), 3, ("never",)), ((0,), 0, ("never",)), ((0,), 1, ("cut", (0,))),
                                  ((0,), 2, ("cut", (0, 1))), ((1,), 0, ("cut", (1,))), ((1,), 1, ("never",)),
                                  ((1,), 2, ("cut", (0, 1))), ((0, 1), 2, ("cut", (0, 1))), ((0, 1), 0, ("never",))):
            with self.subTest(word=word, value=value):
                self.assertEqual(next_cut(2, reading, word, value), told)

    def test_few_places_ahead_of_the_words_order(self):
        # In the words' order (0, 1) comes ahead of (1,), and of (2,).
        reading = [1 if word in ((0, 1), (1,), (0, 1, 2)) else 0 for word in ordered(3)]
        self.assertEqual(next_cut(3, reading, (), 1), ("cut", (1,)))
        self.assertEqual(next_cut(3, reading, (2,), 1), ("cut", (0, 1, 2)))
        self.assertEqual(next_cut(3, reading, (0,), 1), ("cut", (0, 1)))

    def test_all_readings_of_two_holes(self):
        for reading in all_readings(2, 3):
            for word in words(2):
                for value in range(4):
                    self.assert_cut(2, reading, word, value)

    def test_greater_fields(self):
        for holes in range(1, 8):
            for reading in some_readings(50 + holes, holes, 5, 2) + some_readings(60 + holes, holes, 16, 1):
                for word in words(holes):
                    for value in (0, 1, 4, 15):
                        self.assert_cut(holes, reading, word, value)

    def test_great_values(self):
        self.assertEqual(next_cut(1, [GREATEST, 0], (), GREATEST), ("cut", ()))
        self.assertEqual(next_cut(1, [0, GREATEST], (), GREATEST), ("cut", (0,)))
        self.assertEqual(next_cut(1, [GREATEST, 0], (0,), GREATEST), ("never",))

    def test_nothing_is_shared(self):
        self.assert_own(next_cut, 2, [0, 1, 2, 0], (), 2)
        self.assert_own(next_cut, 2, [0, 1, 2, 0], (), 7)


class TestOften(OwnLists, unittest.TestCase):
    def assert_often(self, holes, reading, values, numbers):
        told = often(holes, reading, values)
        self.assertIs(type(told), list)
        self.assertEqual({type(number) for number in told}, {int})
        self.assertEqual(told, numbers)
        for judge in JUDGES:
            self.assertIs(judge(holes, reading, values, told), True)

    def test_by_hand(self):
        for holes, reading, values, numbers in (
                (1, [0, 1], 2, [1, 0]), (1, [1, 0], 2, [1, 0]), (1, [0, 0], 2, [0, 0]), (1, [0, 1], 3, [0, 0]),
                (1, [2, 1], 2, [0, 0]), (1, [7, 7], 2, [0, 0]),
                # (), (0,), (0, 1), (1,).
                (2, [0, 1, 0, 1], 2, [2, 1, 0, 1]), (2, [0, 1, 2, 2], 3, [1, 0, 0, 0]),
                (2, [0, 0, 0, 1], 2, [2, 0, 0, 1]), (2, [5, 0, 0, 1], 2, [1, 0, 0, 1]),
                (2, [5, 0, 1, 1], 2, [1, 1, 0, 0]), (2, [0, 0, 1, 9], 2, [1, 1, 0, 0]),
                # (), (0,), (0, 1), (0, 1, 2), (0, 2), (1,), (1, 2), (2,).
                (3, [0, 1, 3, 0, 2, 2, 1, 3], 4, [2, 1, 0, 0, 0, 1, 0, 1])):
            with self.subTest(reading=reading, values=values):
                self.assert_often(holes, reading, values, numbers)

    def test_how_many_are_notched_by_two(self):
        for holes in range(1, 8):
            reading = [len(word) & 1 for word in ordered(holes)]
            self.assert_often(holes, reading, 2, [holes - len(word) for word in ordered(holes)])

    def test_a_value_that_is_never_shown(self):
        for holes in range(1, 8):
            reading = [len(word) & 1 for word in ordered(holes)]
            self.assert_often(holes, reading, 3, [0] * 2 ** holes)

    def test_all_readings_of_few_holes(self):
        for holes, shown in ((1, 5), (2, 4), (3, 2)):
            for reading in all_readings(holes, shown):
                for values in (2, 3):
                    self.assert_often(holes, reading, values, often_by_hand(holes, reading, values))

    def test_values_beyond_those_asked(self):
        for reading in some_readings(71, 3, 6, 60) + some_readings(72, 4, 4, 12):
            holes = 3 if len(reading) == 8 else 4
            for values in (2, 3, 4):
                self.assert_often(holes, reading, values, often_by_hand(holes, reading, values))

    def test_greater_fields(self):
        for holes in (5, 6, 7):
            for shown, values in ((2, 2), (3, 3), (4, 4), (5, 3), (16, 16), (16, 2)):
                for reading in some_readings(80 + holes, holes, shown, 2):
                    self.assert_often(holes, reading, values, often_by_sets(holes, reading, values))

    def test_the_other_way_tells_the_same(self):
        for reading in some_readings(73, 3, 3, 30):
            self.assertEqual(often_by_sets(3, reading, 3), often_by_hand(3, reading, 3))

    def test_folded_ones(self):
        for k, values, blank in ((1, 2, 1), (2, 4, 2), (3, 8, 3)):
            holes = 2 ** k - 1
            self.assert_often(holes, folded(k), values, often_by_sets(holes, folded(k), values))
            self.assertEqual(often(holes, folded(k), values)[0], blank)

    def test_nothing_is_shared(self):
        self.assert_own(often, 2, [0, 1, 0, 1], 2)
        self.assert_own(often, 1, [3, 3], 16)


class TestJudges(OwnLists, unittest.TestCase):
    def test_by_hand(self):
        reading = [0, 1, 0, 1]
        for numbers, least, most in (([2, 1, 0, 1], True, True), ([0, 0, 0, 0], True, False),
                                     ([1, 0, 0, 0], True, False), ([2, 1, 0, 0], True, False),
                                     ([2, 0, 0, 1], True, False), ([1, 1, 0, 1], True, False),
                                     ([2, 0, 0, 0], False, False), ([3, 1, 0, 1], False, True),
                                     ([2, 1, 1, 1], False, False), ([3, 2, 1, 2], False, True),
                                     ([3, 2, 0, 1], False, True), ([3, 2, 0, 2], False, True),
                                     ([GREATEST, 1, 0, 1], False, True), ([9, 5, 2, 6], False, True)):
            with self.subTest(numbers=numbers):
                self.assertIs(shows_least(2, reading, 2, numbers), least)
                self.assertIs(shows_most_often(2, reading, 2, numbers), most)

    def assert_judged(self, holes, reading, values, numbers):
        least = shows_least(holes, reading, values, numbers)
        most = shows_most_often(holes, reading, values, numbers)
        self.assertIs(least, at_least(holes, reading, values, numbers))
        self.assertIs(most, at_most(holes, reading, values, numbers))
        return least, most

    def test_all_numbers_of_few_holes(self):
        for holes, shown, asked, most_number in ((1, 4, (2, 3), 3), (2, 3, (2, 3), 3)):
            for reading in all_readings(holes, shown):
                for values in asked:
                    told = often(holes, reading, values)
                    for numbers in itertools.product(range(most_number), repeat=2 ** holes):
                        least, most = self.assert_judged(holes, reading, values, list(numbers))
                        if least:
                            self.assertTrue(all(one <= other for one, other in zip(numbers, told)))
                        if most:
                            self.assertTrue(all(one >= other for one, other in zip(numbers, told)))
                        self.assertEqual(least and most, list(numbers) == told)

    def test_told_numbers_and_bent_ones(self):
        for holes, shown, values in ((3, 2, 2), (3, 4, 3), (4, 3, 3), (5, 2, 2)):
            for reading in some_readings(90 + holes, holes, shown, 4):
                told = often(holes, reading, values)
                for at in range(len(told)):
                    for more in (-1, 1, 2):
                        if told[at] + more >= 0:
                            bent = told[:at] + [told[at] + more] + told[at + 1:]
                            least, most = self.assert_judged(holes, reading, values, bent)
                            self.assertFalse(least and most)
                            self.assertFalse(least and more > 0)
                            self.assertFalse(most and more < 0)

    def test_seven_holes(self):
        reading = folded(3)
        told = often(7, reading, 8)
        for at in (0, 1, 40, 64, 127):
            for bent in (told[at] + 1, max(told[at] - 1, 0), GREATEST):
                self.assert_judged(7, reading, 8, told[:at] + [bent] + told[at + 1:])
        self.assertIs(shows_least(7, reading, 8, [0] * 128), True)
        self.assertIs(shows_most_often(7, reading, 8, [7 - len(word) for word in ordered(7)]), True)

    def test_what_is_no_such_list(self):
        reading = [0, 1, 0, 1]
        told = [2, 1, 0, 1]
        itself = []
        itself.append(itself)
        for at, thing in enumerate((None, 0, 4, True, "", "2101", b"\x02\x01\x00\x01", (), tuple(told), {}, set(told),
                                    dict(enumerate(told)), iter(told), range(4), [], [2], told[:3], told + [0],
                                    told * 2, told + [None], [told], [None] * 4, ["2", "1", "0", "1"], [[]] * 4,
                                    [(2,), (1,), (0,), (1,)], itself, [itself] * 4, often, list, Unfriendly(),
                                    [Unfriendly()] * 4, [0] * 1100, [None] * 1100, [[0] * 1100] * 4)):
            for judge in JUDGES:
                with self.subTest(at=at, judge=judge.__name__):
                    self.assertIs(judge(2, reading, 2, thing), False)

    def test_one_thing_among_the_numbers_that_is_none(self):
        for judge, numbers in ((shows_least, [0] * 4), (shows_most_often, [9, 5, 0, 5]), (shows_least, [2, 1, 0, 1]),
                               (shows_most_often, [2, 1, 0, 1])):
            self.assertIs(judge(2, [0, 1, 0, 1], 2, list(numbers)), True)
            for at in range(4):
                for thing in (True, False, None, "1", "", 1.0, 0.0, -1, -GREATEST, (), [], [1], b"1", Unfriendly()):
                    with self.subTest(judge=judge.__name__, at=at):
                        self.assertIs(judge(2, [0, 1, 0, 1], 2, numbers[:at] + [thing] + numbers[at + 1:]), False)

    def test_values_beyond_those_asked(self):
        # The first word shows none of the values 0 and 1: both are to be shown from there on.
        reading = [5, 0, 1, 1]
        for numbers, least, most in (([1, 1, 0, 0], True, True), ([2, 1, 0, 0], False, True), ([0] * 4, True, False),
                                     ([0, 1, 0, 0], True, False), ([1, 0, 0, 0], True, False)):
            with self.subTest(numbers=numbers):
                self.assertEqual(self.assert_judged(2, reading, 2, numbers), (least, most))

    def test_nothing_is_shared(self):
        for judge in JUDGES:
            self.assert_own(judge, 2, [0, 1, 0, 1], 2, [2, 1, 0, 1])
            self.assert_own(judge, 2, [0, 1, 0, 1], 2, [0, 0, 9, [1]])


class TestWritten(OwnLists, unittest.TestCase):
    def assert_written(self, holes, reading, numbers, word, row):
        told = written(holes, reading, numbers, word, row)
        self.assertIs(type(told), tuple)
        kind, cut = told
        self.assertIs(type(cut), list)
        shown = dict(zip(ordered(holes), reading))
        number = dict(zip(ordered(holes), numbers))
        last = word
        for value, one in zip(row, cut):
            if shown[last] == value:
                self.assertEqual(one, last)
            else:
                fit = beyond_all(holes, reading, last, value)
                self.assertIn(one, fit)
                greatest = [other for other in fit if number[other] == max(number[other] for other in fit)]
                self.assertIn(one, greatest)
                self.assertEqual(len(one), min(map(len, greatest)))
            last = one
        if kind == "written":
            self.assertEqual(len(cut), len(row))
        else:
            self.assertEqual(kind, "stuck")
            self.assertLess(len(cut), len(row))
            self.assertEqual(beyond_all(holes, reading, last, row[len(cut)]), [])
        return kind

    def test_by_hand(self):
        reading = [0, 1, 0, 1]
        numbers = [2, 1, 0, 1]
        for word, row, told in (((), [], ("written", [])), ((), [0], ("written", [()])),
                                ((), [0, 0], ("written", [(), ()])), ((0,), [0, 0], ("written", [(0, 1), (0, 1)])),
                                ((1,), [1, 0, 1], ("stuck", [(1,), (0, 1)])), ((0, 1), [1], ("stuck", [])),
                                ((0, 1), [0], ("written", [(0, 1)])), ((), [2], ("stuck", [])),
                                ((), [0, 7, 0], ("stuck", [()]))):
            with self.subTest(word=word, row=row):
                self.assertEqual(written(2, reading, numbers, word, row), told)
                self.assert_written(2, reading, numbers, word, row)

    def test_the_greatest_number_then_the_fewest_places(self):
        # (), (0,), (0, 1), (1,): the value 1 is shown by all but the first.
        reading = [0, 1, 1, 1]
        self.assertEqual(written(2, reading, [0, 1, 2, 0], (), [1]), ("written", [(0, 1)]))
        self.assertEqual(written(2, reading, [0, 2, 2, 0], (), [1]), ("written", [(0,)]))
        self.assertEqual(written(2, reading, [0, 0, 2, 2], (), [1]), ("written", [(1,)]))
        self.assertEqual(written(2, reading, [9, 0, 0, 2], (), [1, 1]), ("written", [(1,), (1,)]))

    def test_the_same_word_where_it_shows_the_value(self):
        # A word beyond it shows the value, too, and has the greater number.
        self.assertEqual(written(1, [3, 3], [0, 5], (), [3, 3]), ("written", [(), ()]))
        self.assertEqual(written(2, [0, 1, 1, 0], [0, 0, 9, 0], (0,), [1]), ("written", [(0,)]))
        self.assertEqual(written(2, [0, 1, 1, 0], [0, 0, 9, 0], (), [0, 1, 1]), ("written", [(), (0, 1), (0, 1)]))

    def test_any_numbers(self):
        chance = random.Random(95)
        kinds = set()
        for holes, shown in ((1, 2), (2, 2), (3, 2), (3, 4), (4, 3), (5, 4), (7, 8)):
            for reading in some_readings(96 + holes, holes, shown, 8):
                for numbers in ([chance.randrange(4) for word in reading], often(holes, reading, shown)):
                    row = [chance.randrange(shown) for turn in range(chance.randrange(13))]
                    kinds.add(self.assert_written(holes, reading, numbers, chance.choice(words(holes)), row))
                    kinds.add(self.assert_written(holes, reading, numbers, (), row))
        self.assertEqual(kinds, {"written", "stuck"})

    def test_rows_that_go_surely_are_written_whole(self):
        for holes, reading, values in ((3, folded(2), 4), (7, folded(3), 8), (4, [len(w) & 1 for w in ordered(4)], 2),
                                       (5, some_readings(97, 5, 3, 1)[0], 3)):
            numbers = often(holes, reading, values)
            for word, number, shown in zip(ordered(holes), numbers, reading):
                rows = [[value] for value in range(values) if value != shown]
                for turn in range(1, min(number, 3)):
                    rows = [row + [value] for row in rows for value in range(values) if value != row[-1]]
                for row in rows if number else []:
                    self.assertEqual(written(holes, reading, numbers, word, row)[0], "written")

    def test_rows_of_three_values_on_a_blank_folded_field(self):
        chance = random.Random(98)
        numbers = often(7, folded(3), 8)
        for turn in range(200):
            row = []
            while len(row) < 3:
                value = chance.randrange(8)
                if value != (row[-1] if row else 0):
                    row.append(value)
            self.assertEqual(self.assert_written(7, folded(3), numbers, (), row), "written")

    def test_by_lesser_numbers_that_show_at_least(self):
        reading = [len(word) & 1 for word in ordered(4)]
        lesser = [min(2, 4 - len(word)) for word in ordered(4)]
        self.assertIs(shows_least(4, reading, 2, lesser), True)
        for word, number in zip(ordered(4), lesser):
            row = [(len(word) + turn) & 1 for turn in range(1, number + 1)]
            self.assertEqual(self.assert_written(4, reading, lesser, word, row), "written")

    def test_nothing_is_shared(self):
        self.assert_own(written, 2, [0, 1, 0, 1], [2, 1, 0, 1], (), [0, 1, 0, 0])
        self.assert_own(written, 2, [0, 1, 0, 1], [2, 1, 0, 1], (1,), [0, 1])
        self.assert_own(written, 2, [0, 1, 0, 1], [2, 1, 0, 1], (1,), [])


class TestFolded(OwnLists, unittest.TestCase):
    def test_the_readings(self):
        self.assertEqual(folded(1), [0, 1])
        self.assertEqual(folded(2), [0, 1, 3, 0, 2, 2, 1, 3])
        for k in (1, 2, 3):
            told = folded(k)
            self.assertIs(type(told), list)
            self.assertEqual(len(told), 2 ** (2 ** k - 1))
            for word, value in zip(ordered(2 ** k - 1), told):
                figures = [sum((place + 1) >> at & 1 for place in word) & 1 for at in range(3)]
                self.assertIs(type(value), int)
                self.assertEqual(value, figures[0] + 2 * figures[1] + 4 * figures[2])

    def test_each_value_is_shown_alike_often(self):
        for k in (1, 2, 3):
            self.assertEqual({folded(k).count(value) for value in range(2 ** k)}, {2 ** (2 ** k - 1 - k)})

    def test_nothing_is_shared(self):
        for k in (1, 2, 3):
            self.assert_own(folded, k)


if __name__ == "__main__":
    unittest.main()
