"""Points 30 and 31, and points 2 to 4 as far as they speak of a box."""

import copy
import inspect
import itertools
import random
import string
import unittest

from common import OwnLists, Unfriendly, lists_in, words
from needledeck import passes
from needledeck.box import Box
from needledeck.errors import NoBack, NoHoles, NoName, NoSide, NoWord

SIDES = ("front", "back")

NO_NAMES = (None, 0, 1, True, 1.5, "", " ", "A", "Ann", "ann ", " ann", "an n", "ann1", "1", "a-b", "a_b", "ann\n",
            "\n", "\t", "\u00e4", "\u0430", "abcdefghi", "a" * 4000, b"ann", ("ann",), ["ann"], {}, (), [], set(), str,
            Unfriendly(), [Unfriendly()])
NO_SIDES = (None, 0, True, "", "f", "b", "Front", "BACK", "front ", " back", "fron", "frontback", "ahead", "front\n",
            b"front", ("front",), ["back"], {}, (), [], SIDES, Unfriendly(), [Unfriendly()])
NO_WORDS = (None, 0, 7, True, "", "0", "-", b"", [], [0], {}, set(), {0}, (8,), (-1,), (0, 8), (1, 0), (0, 0), (True,),
            (False, 1), (0.0,), ("0",), (None,), ((),), (0, (1,)), range(3), 10 ** 20 - 1, Unfriendly(),
            (Unfriendly(),), [Unfriendly()])


class Plain:
    """A box handled plainly: each state is had anew from all deeds that were not undone."""

    def __init__(self):
        self.deeds = []

    def do(self, *deed):
        if deed[0] == "undo":
            self.deeds.pop()
        else:
            self.deeds.append(deed)

    def heaps(self):
        heaps = {"box": [], "hand": [], "table": []}
        for deed in self.deeds:
            getattr(self, deed[0])(heaps, *deed[1:])
        return tuple([(name, tuple(sorted(places))) for name, places in heaps[heap]] for heap in ("box", "hand", "table"))

    def part(self, cards, needles):
        return ([card for card in cards if set(needles) <= card[1]],
                [card for card in cards if not set(needles) <= card[1]])

    def add(self, heaps, name, word):
        heaps["box"].append((name, set(word)))

    def needle(self, heaps, needles):
        drops, heaps["box"] = self.part(heaps["box"], needles)
        heaps["hand"] += drops

    def lay(self, heaps, side):
        cards = heaps["hand"], heaps["box"]
        heaps["box"] = cards[0] + cards[1] if side == "front" else cards[1] + cards[0]
        heaps["hand"] = []

    def set_by(self, heaps):
        heaps["table"] += heaps["hand"]
        heaps["hand"] = []

    def take_up(self, heaps):
        heaps["box"] += heaps["table"]
        heaps["table"] = []

    def go(self, heaps, row):
        for needles, side in row:
            drops, kept = self.part(heaps["box"], needles)
            heaps["box"] = drops + kept if side == "front" else kept + drops

    def cut(self, heaps, name, places):
        for cards in heaps.values():
            for other, word in cards:
                if other == name:
                    word |= set(places)

    def take(self, heaps, name):
        for heap in heaps:
            heaps[heap] = [card for card in heaps[heap] if card[0] != name]


def names_in(heaps):
    return [name for cards in heaps for name, word in cards]


def some_word(chance, holes):
    return tuple(sorted(chance.sample(range(holes), chance.randrange(min(holes, 4) + 1))))


def some_deed(chance, holes, names, free, many):
    """A deed that a box with these names, and so many deeds to undo, lets by."""
    kinds = ["needle", "lay", "set_by", "take_up", "go"] + ["undo"] * (many > 0)
    kinds += ["add"] * (6 if free and len(names) < 60 else 0)
    kinds += ["cut", "cut", "take"] * (len(names) > 0)
    kind = chance.choice(kinds)
    if kind == "add":
        return (kind, chance.choice(free), some_word(chance, holes))
    if kind == "needle":
        return (kind, some_word(chance, holes)[:2])
    if kind == "lay":
        return (kind, chance.choice(SIDES))
    if kind == "go":
        return (kind, [(some_word(chance, holes)[:2], chance.choice(SIDES)) for turn in range(chance.randrange(13))])
    if kind == "cut":
        return (kind, chance.choice(names), some_word(chance, holes))
    if kind == "take":
        return (kind, chance.choice(names))
    return (kind,)


def do(box, deed):
    return getattr(box, deed[0])(*deed[1:])


def some_box():
    """A box of eight holes with cards in each heap, and twelve deeds behind it."""
    box = Box(8)
    for name, word in (("ann", (0, 1)), ("bob", (1,)), ("cid", (2,)), ("dot", ()), ("eve", (0, 2)), ("fay", (1, 2))):
        box.add(name, word)
    box.needle((0,))
    box.set_by()
    box.needle((2,))
    box.cut("bob", (7,))
    box.lay("front")
    box.needle((1, 2))
    return box


SOME = ([("cid", (2,)), ("bob", (1, 7)), ("dot", ())], [("fay", (1, 2))], [("ann", (0, 1)), ("eve", (0, 2))])


class BoxCase(OwnLists, unittest.TestCase):
    def assert_heaps(self, box, heaps):
        told = box.heaps()
        self.assertIs(type(told), tuple)
        self.assertEqual([type(cards) for cards in told], [list] * 3)
        for cards in told:
            for card in cards:
                self.assertEqual([type(card), type(card[0]), type(card[1])], [tuple, str, tuple])
        self.assertEqual(told, heaps)
        for heap, cards in zip(("box", "hand", "table"), heaps):
            for number, (name, word) in enumerate(cards):
                self.assertEqual(box.place_of(name), (heap, number))

    def assert_refused(self, error, box, *deed):
        """Refused with just this class; the heaps and what can be undone stay."""
        before = box.heaps()
        with self.assertRaises(error) as caught:
            do(box, deed)
        self.assertIs(type(caught.exception), error)
        self.assertEqual(box.heaps(), before)


class TestInterface(unittest.TestCase):
    def test_names_and_arguments(self):
        asked = {"add": ["name", "word"], "needle": ["needles"], "lay": ["side"], "set_by": [], "take_up": [],
                 "go": ["row"], "cut": ["name", "places"], "take": ["name"], "undo": [], "heaps": [],
                 "place_of": ["name"]}
        for name, arguments in asked.items():
            with self.subTest(name=name):
                self.assertEqual(list(inspect.signature(getattr(Box, name)).parameters), ["self"] + arguments)
        self.assertEqual(list(inspect.signature(Box).parameters), ["holes"])

    def test_holes(self):
        for holes in range(1, 61):
            self.assertEqual(Box(holes).heaps(), ([], [], []))
        for holes in (None, 0, -1, 61, 10 ** 20 - 1, True, False, "8", "", b"8", 8.0, (8,), [8], [], {}, int, Unfriendly()):
            with self.assertRaises(NoHoles):
                Box(holes)


class TestDeeds(BoxCase):
    def test_none_at_first(self):
        self.assert_heaps(Box(8), ([], [], []))

    def test_add(self):
        box = Box(8)
        self.assertIsNone(box.add("bob", (1,)))
        self.assert_heaps(box, ([("bob", (1,))], [], []))
        box.add("ann", ())
        box.add("abcdefgh", (1,))
        box.add("none", (0, 7))
        self.assert_heaps(box, ([("bob", (1,)), ("ann", ()), ("abcdefgh", (1,)), ("none", (0, 7))], [], []))

    def test_add_behind_the_boxs_others(self):
        box = some_box()
        box.add("gus", (3,))
        self.assert_heaps(box, (SOME[0] + [("gus", (3,))], SOME[1], SOME[2]))

    def test_needle(self):
        box = some_box()
        self.assert_heaps(box, SOME)
        self.assertIsNone(box.needle((1,)))
        self.assert_heaps(box, ([("cid", (2,)), ("dot", ())], [("fay", (1, 2)), ("bob", (1, 7))], SOME[2]))
        box.needle(())
        self.assert_heaps(box, ([], [("fay", (1, 2)), ("bob", (1, 7)), ("cid", (2,)), ("dot", ())], SOME[2]))
        box.needle(())
        self.assert_heaps(box, ([], [("fay", (1, 2)), ("bob", (1, 7)), ("cid", (2,)), ("dot", ())], SOME[2]))

    def test_lay(self):
        box = some_box()
        self.assertIsNone(box.lay("front"))
        self.assert_heaps(box, (SOME[1] + SOME[0], [], SOME[2]))
        box = some_box()
        self.assertIsNone(box.lay("back"))
        self.assert_heaps(box, (SOME[0] + SOME[1], [], SOME[2]))
        box.lay("front")
        self.assert_heaps(box, (SOME[0] + SOME[1], [], SOME[2]))

    def test_set_by(self):
        box = some_box()
        self.assertIsNone(box.set_by())
        self.assert_heaps(box, (SOME[0], [], SOME[2] + SOME[1]))
        box.set_by()
        self.assert_heaps(box, (SOME[0], [], SOME[2] + SOME[1]))

    def test_take_up(self):
        box = some_box()
        self.assertIsNone(box.take_up())
        self.assert_heaps(box, (SOME[0] + SOME[2], SOME[1], []))
        box.take_up()
        self.assert_heaps(box, (SOME[0] + SOME[2], SOME[1], []))

    def test_go(self):
        box = some_box()
        self.assertIsNone(box.go([((1,), "front")]))
        self.assert_heaps(box, ([SOME[0][1], SOME[0][0], SOME[0][2]], SOME[1], SOME[2]))
        box.go([((1,), "back"), ((2,), "back")])
        self.assert_heaps(box, ([SOME[0][2], SOME[0][1], SOME[0][0]], SOME[1], SOME[2]))
        box.go([])
        self.assert_heaps(box, ([SOME[0][2], SOME[0][1], SOME[0][0]], SOME[1], SOME[2]))

    def test_go_as_the_function_puts_the_words(self):
        chance = random.Random(240)
        names = ["".join(two) for two in itertools.product(string.ascii_lowercase, repeat=2)][:60]
        for turn in range(10):
            box = Box(6)
            for name in names:
                box.add(name, chance.choice(words(6)))
            row = [(chance.choice(words(6)[:22]), chance.choice(SIDES)) for at in range(12)]
            deck = [word for name, word in box.heaps()[0]]
            box.go(row)
            self.assertEqual([word for name, word in box.heaps()[0]], passes.done(deck, row))

    def test_cut_wherever_it_lies(self):
        for name, heap, number, word in (("bob", 0, 1, (1, 7)), ("fay", 1, 0, (1, 2)), ("ann", 2, 0, (0, 1)),
                                         ("eve", 2, 1, (0, 2)), ("dot", 0, 2, ())):
            for places in ((), (5,), (0, 1, 2), (1, 7), tuple(range(8))):
                box = some_box()
                self.assertIsNone(box.cut(name, places))
                heaps = [list(cards) for cards in SOME]
                heaps[heap][number] = (name, tuple(sorted(set(word) | set(places))))
                self.assert_heaps(box, tuple(heaps))

    def test_take_wherever_it_lies(self):
        for name in names_in(SOME):
            box = some_box()
            self.assertIsNone(box.take(name))
            self.assert_heaps(box, tuple([card for card in cards if card[0] != name] for cards in SOME))
            self.assert_refused(NoName, box, "take", name)
            box.add(name, (4,))
            self.assertEqual(box.heaps()[0][-1], (name, (4,)))

    def test_place_of(self):
        box = some_box()
        for name, place in (("cid", ("box", 0)), ("bob", ("box", 1)), ("dot", ("box", 2)), ("fay", ("hand", 0)),
                            ("ann", ("table", 0)), ("eve", ("table", 1))):
            self.assertIs(type(box.place_of(name)), tuple)
            self.assertEqual(box.place_of(name), place)


class TestUndo(BoxCase):
    def test_each_deed(self):
        for deed in (("add", "gus", (3,)), ("needle", (1,)), ("lay", "front"), ("lay", "back"), ("set_by",),
                     ("take_up",), ("go", [((2,), "back")]), ("cut", "bob", (5,)), ("cut", "fay", (5,)),
                     ("cut", "eve", (5,)), ("take", "bob"), ("take", "fay"), ("take", "ann")):
            with self.subTest(deed=deed):
                box = some_box()
                do(box, deed)
                self.assertNotEqual(box.heaps(), SOME)
                self.assertIsNone(box.undo())
                self.assert_heaps(box, SOME)

    def test_one_by_one_to_the_first(self):
        chance = random.Random(241)
        box = Box(5)
        seen = []
        for turn in range(200):
            seen.append(box.heaps())
            names = names_in(box.heaps())
            deed = some_deed(chance, 5, names, [name for name in string.ascii_lowercase if name not in names], 0)
            do(box, deed)
        while seen:
            self.assertIsNone(box.undo())
            self.assert_heaps(box, seen.pop())
        self.assertEqual(box.heaps(), ([], [], []))
        self.assert_refused(NoBack, box, "undo")
        self.assert_refused(NoBack, box, "undo")
        box.add("ann", ())
        box.undo()
        self.assert_refused(NoBack, box, "undo")

    def test_a_deed_that_changes_nothing_is_a_deed(self):
        for deed in (("needle", (0, 1, 2, 3)), ("lay", "front"), ("lay", "back"), ("set_by",), ("take_up",), ("go", []),
                     ("go", [((), "back")]), ("cut", "ann", ()), ("cut", "ann", (1,))):
            with self.subTest(deed=deed):
                box = Box(4)
                box.add("ann", (1,))
                do(box, deed)
                self.assertEqual(box.heaps(), ([("ann", (1,))], [], []))
                box.undo()
                self.assertEqual(box.heaps(), ([("ann", (1,))], [], []))
                box.undo()
                self.assertEqual(box.heaps(), ([], [], []))
                self.assert_refused(NoBack, box, "undo")
        box = Box(1)
        for deed in (("needle", ()), ("lay", "back"), ("set_by",), ("take_up",), ("go", [])):
            do(box, deed)
        for turn in range(5):
            box.undo()
        self.assert_refused(NoBack, box, "undo")

    def test_undoing_is_no_deed(self):
        box = Box(4)
        box.add("ann", (1,))
        box.add("bob", (2,))
        box.undo()
        box.add("cid", (3,))
        box.undo()
        self.assert_heaps(box, ([("ann", (1,))], [], []))
        box.undo()
        self.assert_heaps(box, ([], [], []))
        self.assert_refused(NoBack, box, "undo")

    def test_asking_is_no_deed(self):
        box = Box(4)
        box.add("ann", (1,))
        box.heaps()
        box.place_of("ann")
        box.undo()
        self.assertEqual(box.heaps(), ([], [], []))

    def test_names_come_and_go(self):
        box = Box(4)
        box.add("ann", (1,))
        box.take("ann")
        box.add("ann", (2,))
        self.assert_refused(NoName, box, "add", "ann", (3,))
        box.undo()
        self.assert_refused(NoName, box, "take", "ann")
        box.undo()
        self.assert_heaps(box, ([("ann", (1,))], [], []))
        box.undo()
        self.assert_refused(NoName, box, "cut", "ann", (3,))


class TestRefused(BoxCase):
    def refusals(self):
        """Each refusal as (class, deed); where several things are wrong the class is that of the first one."""
        for name in NO_NAMES:
            yield NoName, ("add", name, (0,))
            yield NoName, ("add", name, None)
        for name in NO_NAMES + ("x", "an", "anna", "annann"):
            for deed in (("cut", name, (0,)), ("cut", name, (8,)), ("take", name), ("place_of", name)):
                yield NoName, deed
        for name in names_in(SOME):
            yield NoName, ("add", name, (0,))
            yield NoName, ("add", name, Unfriendly())
        for word in NO_WORDS:
            for deed in (("add", "gus", word), ("needle", word), ("cut", "bob", word), ("cut", "fay", word),
                         ("cut", "ann", word), ("go", [(word, "front")]), ("go", [(word, "side")]),
                         ("go", [((0,), "back"), (word, "front")]), ("go", [((0,), "back"), (word, None)]),
                         ("go", [(word, "front"), ((0,), "side")])):
                yield NoWord, deed
        for side in NO_SIDES:
            for deed in (("lay", side), ("go", [((0,), side)]), ("go", [((0,), "back"), ((1,), side)]),
                         ("go", [((0,), side), ((8,), "front")]), ("go", [((1,), "front"), ((0,), side), (None, None)])):
                yield NoSide, deed

    def test_each_refusal_changes_nothing(self):
        box = some_box()
        seen = [copy.deepcopy(box.heaps())]
        for error, deed in self.refusals():
            self.assert_refused(error, box, *deed)
        self.assertEqual(box.heaps(), seen[0])
        # Behind all these refusals just the twelve deeds are left to be undone.
        for turn in range(12):
            box.undo()
        self.assertEqual(box.heaps(), ([], [], []))
        self.assert_refused(NoBack, box, "undo")

    def test_what_is_refused_leaves_what_is_undone_next(self):
        for error, deed in self.refusals():
            box = Box(8)
            for name, word in (("ann", (1,)), ("bob", (2,)), ("cid", ()), ("dot", ()), ("eve", ()), ("fay", ())):
                box.add(name, word)
            box.needle((2,))
            self.assert_refused(error, box, *deed)
            box.undo()
            self.assertEqual(box.heaps()[1], [])
            self.assertEqual(len(box.heaps()[0]), 6)

    def test_words_of_other_holes(self):
        for holes in (1, 7, 9, 60):
            box = Box(holes)
            box.add("ann", (holes - 1,))
            for deed in (("add", "bob", (holes,)), ("needle", (holes,)), ("cut", "ann", (0, holes)),
                         ("go", [((holes,), "back")])):
                self.assert_refused(NoWord, box, *deed)
            box.cut("ann", tuple(range(holes)))
            self.assertEqual(box.heaps(), ([("ann", tuple(range(holes)))], [], []))

    def test_refused_in_an_empty_box(self):
        box = Box(3)
        for error, deed in ((NoName, ("take", "ann")), (NoName, ("cut", "ann", ())), (NoName, ("place_of", "ann")),
                            (NoBack, ("undo",)), (NoSide, ("lay", None)), (NoWord, ("needle", None))):
            self.assert_refused(error, box, *deed)


class TestOwn(BoxCase):
    def test_told_heaps_are_the_askers_own(self):
        box = some_box()
        told = box.heaps()
        self.assertEqual(len({id(one) for one in lists_in(told)}), 3)
        for cards in told:
            cards.append(("spoilt", (0,)))
            cards.reverse()
        self.assert_heaps(box, SOME)
        kept = box.heaps()
        box.take("ann")
        box.needle(())
        box.cut("bob", (3,))
        self.assertEqual(kept, SOME)
        for turn in range(3):
            box.undo()
            for cards in box.heaps():
                cards.clear()
        self.assert_heaps(box, SOME)
        self.assertEqual(kept, SOME)

    def test_empty_heaps_are_own_lists_too(self):
        box = Box(3)
        told = box.heaps()
        self.assertEqual(len({id(one) for one in told}), 3)
        for cards in told:
            cards.append(1)
        self.assertEqual(box.heaps(), ([], [], []))
        self.assertEqual(Box(3).heaps(), ([], [], []))

    def test_what_is_handed_in_stays(self):
        box = some_box()
        row = [((1,), "back"), ((), "front")]
        box.go(row)
        self.assertEqual(row, [((1,), "back"), ((), "front")])
        behind = box.heaps()
        row.clear()
        self.assertEqual(box.heaps(), behind)
        box.undo()
        self.assert_heaps(box, SOME)

    def test_two_boxes_know_nothing_of_each_other(self):
        one, other = some_box(), Box(3)
        other.add("ann", (2,))
        self.assert_heaps(one, SOME)
        one.undo()
        one.take("ann")
        self.assert_heaps(other, ([("ann", (2,))], [], []))
        other.undo()
        self.assert_refused(NoBack, other, "undo")
        self.assertEqual(names_in(one.heaps()), ["cid", "fay", "bob", "dot", "eve"])

    def test_asked_again_the_same(self):
        box = some_box()
        self.assertEqual(box.heaps(), box.heaps())
        self.assertEqual(box.place_of("eve"), box.place_of("eve"))


class TestAsPlainHandling(BoxCase):
    def handle(self, seed, holes, all_names, deeds, looks):
        chance = random.Random(seed)
        box, hand = Box(holes), Plain()
        for turn in range(deeds):
            names = names_in(box.heaps())
            free = [name for name in all_names if name not in names]
            deed = some_deed(chance, holes, names, free, len(hand.deeds))
            self.assertIsNone(do(box, deed))
            hand.do(*deed)
            if turn % looks == 0:
                self.assert_heaps(box, hand.heaps())
        self.assert_heaps(box, hand.heaps())
        return box, hand

    def test_few_cards(self):
        for seed in range(250, 290):
            self.handle(seed, 1 + seed % 5, list("abcde"), 60, 1)

    def test_sixty_cards_and_a_thousand_deeds(self):
        names = ["".join(two) for two in itertools.product("abcdefgh", repeat=2)][:60]
        box, hand = self.handle(290, 60, names, 1000, 50)
        while hand.deeds:
            hand.do("undo")
            box.undo()
            if len(hand.deeds) % 50 == 0:
                self.assert_heaps(box, hand.heaps())
        self.assert_refused(NoBack, box, "undo")

    def test_sixty_cards_through_all_heaps(self):
        names = ["".join(two) for two in itertools.product("abcdefgh", repeat=2)][:60]
        box = Box(60)
        for place, name in enumerate(names):
            box.add(name, (place,))
        for place in range(59, -1, -1):
            box.needle((place,))
        self.assertEqual([name for name, word in box.heaps()[1]], names[::-1])
        box.set_by()
        box.take_up()
        self.assertEqual(box.heaps(), ([(name, (60 - 1 - at,)) for at, name in enumerate(names[::-1])], [], []))
        for turn in range(60 + 2):
            box.undo()
        self.assertEqual([name for name, word in box.heaps()[0]], names)


if __name__ == "__main__":
    unittest.main()
