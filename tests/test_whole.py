"""Points 1 to 4 over the whole program: what holds across its parts."""

import importlib
import inspect
import os
import pathlib
import random
import subprocess
import sys
import unittest

from common import lists_in, words
from needledeck.again import folded, often, shows_least, shows_most_often, written
from needledeck.box import Box
from needledeck.chains import chains, fewest_holes, most, shows_most, two_in
from needledeck.codes import plain, words_of
from needledeck.counts import counts, deck_of
from needledeck.decks import needled
from needledeck.desk import Desk
from needledeck.errors import NeedleError
from needledeck.fewest import fewest_places, shows_fewest
from needledeck.fields import edge, find, written_as
from needledeck.passes import ahead, alike, done, sorting
from needledeck.several import apart, clean, cut_in, looked_up
from needledeck.tears import mends, tells, torn_of
from needledeck.texts import read_code, read_deck, read_row, show_deck, show_row

ROOT = pathlib.Path(__file__).resolve().parent.parent

INTERFACE = {
    "words": ("check_word(holes, word)", "within(one, other)", "together(one, other)", "beyond(one, other)",
              "all_words(holes)"),
    "decks": ("needled(deck, needles)",),
    "passes": ("done(deck, row)", "ahead(row, one, other)", "alike(holes, row, other)", "idle(holes, row)",
               "thinned(holes, row)", "sorting(places)"),
    "codes": ("plain(code)", "choose(n, k)", "number_of(holes, word)", "word_at(holes, many, number)",
              "words_of(holes, many)"),
    "chains": ("chains(holes)", "shows_most(holes, thing)", "two_in(code, some)", "most(holes)", "fewest_holes(values)"),
    "several": ("cut_in(code, numbers)", "clean(code, several)", "looked_up(code, card)", "apart(code, several)"),
    "again": ("next_cut(holes, reading, word, value)", "often(holes, reading, values)",
              "shows_least(holes, reading, values, thing)", "shows_most_often(holes, reading, values, thing)",
              "written(holes, reading, numbers, word, row)", "folded(k)"),
    "tears": ("tells(code, tears)", "mends(code, tears)", "torn_of(code, tears, word)"),
    "counts": ("counts(holes, deck)", "deck_of(holes, numbers)", "just(holes, numbers, notched, whole)"),
    "fewest": ("fewest_places(holes, deck)", "shows_fewest(holes, deck, thing)"),
    "fields": ("edge(layout)", "begins(layout)", "written_as(layout, values)", "find(layout, cards, question)"),
    "box": ("Box(holes)",),
    "texts": ("show_word(word)", "show_deck(deck)", "show_row(row)", "read_word(holes, text)", "read_deck(holes, text)",
              "read_row(holes, text)", "read_code(holes, text)"),
    "desk": ("Desk()",),
}

# Tells much of what the program tells; run by itself under several seeds of Python's hashing.
TOLD = """
from needledeck.again import folded, often, written
from needledeck.chains import chains, most
from needledeck.counts import counts, deck_of
from needledeck.desk import Desk
from needledeck.fewest import fewest_places
from needledeck.passes import alike, thinned
from needledeck.several import apart, clean
from needledeck.tears import mends, tells
from needledeck.words import all_words
deck = all_words(5)[::3]
row = [((0, 1), "front"), ((2,), "back"), ((0,), "front"), ((2, 3), "back")]
print(fewest_places(5, deck), fewest_places(5, deck + deck), chains(5), most(4), alike(5, row, row[1:]))
print(thinned(5, row + row), clean(deck, 2), apart(deck, 2), tells(deck, 2), mends(deck, 2))
print(often(7, folded(3), 8), written(7, folded(3), often(7, folded(3), 8), (), [5, 2, 7, 1]))
print(counts(5, deck), deck_of(5, counts(5, deck)), deck_of(5, list(range(32))))
desk = Desk()
print([desk.say(line) for line in ("add ann 0", "add bob 1", "code 0 0,1", "plain", "box", "fewest", "apart 2")])
"""


class TestInterface(unittest.TestCase):
    def test_all_is_there_under_its_name(self):
        for module, signatures in INTERFACE.items():
            there = importlib.import_module("needledeck." + module)
            for signature in signatures:
                name, arguments = signature.rstrip(")").split("(")
                with self.subTest(module=module, name=name):
                    told = [one.name for one in inspect.signature(getattr(there, name)).parameters.values()]
                    self.assertEqual(", ".join(told), arguments)

    def test_each_file_of_the_package_is_told_of(self):
        there = {path.stem for path in (ROOT / "needledeck").glob("*.py")}
        self.assertEqual(there, set(INTERFACE) | {"__init__", "errors"})


class TestThePromise(unittest.TestCase):
    def test_decks_are_put_card_by_card(self):
        chance = random.Random(400)
        for turn in range(30):
            row = [(chance.choice(words(4)), chance.choice(("front", "back"))) for at in range(chance.randrange(13))]
            deck = chance.sample(words(4), 16)
            behind = done(deck, row)
            for at, one in enumerate(behind):
                for other in behind[at + 1:]:
                    comes = ahead(row, one, other)
                    self.assertTrue(comes == "one" or comes == "laid" and deck.index(one) < deck.index(other))
            self.assertEqual(alike(4, row, read_row(4, show_row(row))), ("alike",))

    def test_no_plain_code_has_more_words_than_any_chains(self):
        for holes in range(1, 11):
            code, some = most(holes)
            self.assertEqual(plain(code), ("plain",))
            self.assertIs(shows_most(holes, some), True)
            self.assertEqual(fewest_holes(len(code)), holes)
            extra = next(word for word in words(holes) if word not in code)
            i, j = two_in(code + [extra], some)
            self.assertEqual(plain(code + [extra])[0], "within")
            self.assertLess(set((code + [extra])[i]), set((code + [extra])[j]))

    def test_fields_go_as_often_as_told(self):
        for k in (1, 2, 3):
            holes, values = 2 ** k - 1, 2 ** k
            numbers = often(holes, folded(k), values)
            self.assertIs(shows_least(holes, folded(k), values, numbers), True)
            self.assertIs(shows_most_often(holes, folded(k), values, numbers), True)
            row = [1 + (turn & 1) if values > 2 else 1 for turn in range(numbers[0])]
            self.assertEqual(written(holes, folded(k), numbers, (), row)[0], "written")

    def test_codes_on_cards(self):
        code = [(0, 1, 2), (0, 3, 4), (0, 5, 6), (1, 3, 5), (1, 4, 6), (2, 3, 6), (2, 4, 5)]
        self.assertEqual(plain(code), ("plain",))
        self.assertEqual(clean(code, 2), ("clean",))
        self.assertEqual(apart(code, 2), ("apart",))
        self.assertEqual(tells(code, 7), ("tells",))
        self.assertEqual(mends(code, 1), ("mends",))
        for i in range(7):
            self.assertEqual(torn_of(code, 1, cut_in(code, [i])), [i])
            for j in range(i + 1, 7):
                self.assertEqual(looked_up(code, cut_in(code, [i, j])), [i, j])

    def test_counts_lead_back_and_places_part(self):
        chance = random.Random(401)
        for holes in range(1, 11):
            deck = chance.sample(words(holes), min(12, 2 ** holes))
            self.assertEqual(deck_of(holes, counts(holes, deck)), ("deck", sorted(deck)))
            told = fewest_places(holes, deck)
            self.assertEqual(told[0], "places")
            self.assertIs(shows_fewest(holes, deck, told), True)
            sorted_by = done(deck, sorting(list(told[1])))
            self.assertEqual(sorted_by, done(deck[::-1], sorting(list(told[1]))))

    def test_a_layout_on_a_box(self):
        layout = [("kind", 4, words_of(4, 2)), ("year", 5, words_of(5, 2))]
        cards = {"ann": [("kind", 0), ("year", 9)], "bob": [("kind", 5), ("year", 9)], "cid": [("kind", 0)]}
        box = Box(edge(layout))
        for name, values in cards.items():
            box.add(name, written_as(layout, values))
        box.needle(written_as(layout, [("kind", 0)]))
        found, wrong = find(layout, list(cards.values()), [("kind", 0)])
        self.assertEqual([name for name, word in box.heaps()[1]], [list(cards)[at] for at in found + wrong])

    def test_a_desk_answers_as_the_functions(self):
        desk = Desk()
        deck = [(0, 1), (1, 2), (), (0, 1, 7)]
        for name, word in zip("abcd", deck):
            self.assertEqual(desk.say(f"add {name} {show_deck([word])}"), "ok")
        self.assertEqual(desk.say("drop 1"), str(len(needled(deck, (1,))[0])))
        self.assertEqual(read_deck(8, desk.say("fewest")), [fewest_places(8, deck)[1]])
        self.assertEqual(read_code(8, "none"), [])


class TestOverTheWhole(unittest.TestCase):
    def test_what_was_told_may_be_handed_in_again(self):
        for holes in range(1, 11):
            told = chains(holes)
            self.assertIs(shows_most(holes, told), True)
            self.assertEqual(len({id(one) for one in lists_in(told)}), len(lists_in(told)))
        deck = words(6)
        self.assertEqual(deck_of(6, counts(6, deck)), ("deck", sorted(deck)))
        self.assertIs(shows_fewest(6, deck, fewest_places(6, deck)), True)
        self.assertEqual(read_deck(6, show_deck(deck)), deck)

    def test_nothing_hangs_on_chance(self):
        told = set()
        for seed in ("0", "1", "77"):
            around = dict(os.environ, PYTHONHASHSEED=seed, PYTHONPATH=str(ROOT), PYTHONDONTWRITEBYTECODE="1")
            told.add(subprocess.run([sys.executable, "-c", TOLD], env=around, capture_output=True, text=True,
                                    check=True).stdout)
        self.assertEqual(len(told), 1)
        self.assertGreater(len(told.pop()), 1000)

    def test_every_refusal_is_a_needle_error(self):
        desk = Desk()
        for line in (None, "x", "add ? 0", "add a 8", "lay up", "undo", "clean 9"):
            with self.assertRaises(NeedleError):
                desk.say(line)


if __name__ == "__main__":
    unittest.main()
