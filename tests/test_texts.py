"""Point 32, and points 2 to 4 as far as they speak of texts."""

import inspect
import itertools
import random
import unittest

from common import OwnLists, Unfriendly, words
from needledeck import texts
from needledeck.errors import NoText
from needledeck.texts import read_code, read_deck, read_row, read_word, show_deck, show_row, show_word

READERS = (read_word, read_deck, read_row, read_code)
SIDES = ("front", "back")

# What tells no word of eight holes, wherever it stands.
NO_WORDS = ("", "--", "-,0", "0,-", ",", "0,", ",0", "0,,1", "00", "01", "0,01", "1,00", "1,0", "0,0", "2,1,3", "0,2,2",
            "8", "0,8", "9", "10", "07", "0,1,2,3,4,5,6,7,8", "99999999999999999999", "100000000000000000000",
            "000000000000000000000", "0" * 21, "1" * 4000, "+1", "-1", "-0", "1.", "1.0", "1e0", "0x1", "1_0", "a", "f",
            "none", "None", "()", "(0,)", "[0]", "0;1", "0:", ":f", "0\n", "\n0", "\n", "\t", "0\t", "0,\t1", "- ", "~",
            "\u0661", "\u00b2", "\uff11", "0,\u0661", "\u2212", "\x00")


def some_rows(seed, rows):
    chance = random.Random(seed)
    return [[(chance.choice(words(6)), chance.choice(SIDES)) for turn in range(chance.randrange(13))]
            for row in range(rows)]


class TestInterface(unittest.TestCase):
    def test_names_and_arguments(self):
        asked = {"show_word": ["word"], "show_deck": ["deck"], "show_row": ["row"], "read_word": ["holes", "text"],
                 "read_deck": ["holes", "text"], "read_row": ["holes", "text"], "read_code": ["holes", "text"]}
        for name, arguments in asked.items():
            with self.subTest(name=name):
                self.assertEqual(list(inspect.signature(getattr(texts, name)).parameters), arguments)


class TestShown(OwnLists, unittest.TestCase):
    def test_words(self):
        for word, text in (((), "-"), ((0,), "0"), ((59,), "59"), ((0, 3, 12), "0,3,12"),
                           (tuple(range(60)), ",".join(map(str, range(60))))):
            with self.subTest(word=word):
                self.assertIs(type(show_word(word)), str)
                self.assertEqual(show_word(word), text)
                self.assertIs(type(read_word(60, text)), tuple)
                self.assertEqual(read_word(60, text), word)

    def test_decks_and_codes(self):
        for deck, text in (([], "none"), ([()], "-"), ([(0, 1)], "0,1"), ([(), (2,), (0, 7)], "- 2 0,7"),
                           ([(7,), (0,), (3,)], "7 0 3")):
            with self.subTest(deck=deck):
                self.assertIs(type(show_deck(deck)), str)
                self.assertEqual(show_deck(deck), text)
                for read in (read_deck, read_code):
                    self.assertIs(type(read(8, text)), list)
                    self.assertEqual(read(8, text), deck)
        self.assertEqual(show_deck([(), (), (1,), (1,)]), "- - 1 1")
        self.assertEqual(read_deck(8, "- - 1 1"), [(), (), (1,), (1,)])

    def test_rows(self):
        for row, text in (([], "none"), ([((), "front")], "-:f"), ([((), "back")], "-:b"),
                          ([((0, 3), "back"), ((7,), "front")], "0,3:b 7:f"),
                          ([((7,), "front"), ((7,), "front")], "7:f 7:f")):
            with self.subTest(row=row):
                self.assertIs(type(show_row(row)), str)
                self.assertEqual(show_row(row), text)
                self.assertIs(type(read_row(8, text)), list)
                self.assertEqual(read_row(8, text), row)

    def test_what_is_shown_is_read_back(self):
        chance = random.Random(230)
        for holes in range(1, 61):
            whole = tuple(range(holes))
            some = [tuple(sorted(chance.sample(whole, chance.randrange(holes + 1)))) for card in range(60)]
            for word in some + [(), whole, (holes - 1,)]:
                self.assertEqual(read_word(holes, show_word(word)), word)
            self.assertEqual(read_deck(holes, show_deck(some)), some)
            code = list(dict.fromkeys(some))[:40]
            self.assertEqual(read_code(holes, show_deck(code)), code)
            row = [(word, chance.choice(SIDES)) for word in some[:12]]
            self.assertEqual(read_row(holes, show_row(row)), row)
        for row in some_rows(231, 50):
            self.assertEqual(read_row(6, show_row(row)), row)
        for many in range(3):
            for deck in itertools.product(words(3), repeat=many):
                self.assertEqual(read_deck(3, show_deck(list(deck))), list(deck))

    def test_what_is_read_is_shown_as_it_stood(self):
        for text in ("-", "0", "0,7", "- - 0", "none", "0,1 2,3 -"):
            self.assertEqual(show_deck(read_deck(8, text)), text)
        for text in ("none", "-:f", "0:b 0,7:f -:b"):
            self.assertEqual(show_row(read_row(8, text)), text)

    def test_nothing_is_shared(self):
        self.assert_own(show_word, (0, 1))
        self.assert_own(show_deck, [(0, 1), ()])
        self.assert_own(show_row, [((0, 1), "back")])
        self.assert_own(read_word, 8, "0,1")
        for read, text in ((read_deck, "0,1 -"), (read_deck, "none"), (read_code, "0,1 -"), (read_code, "none"),
                           (read_row, "0,1:b -:f"), (read_row, "none")):
            self.assert_own(read, 8, text)


class TestRefused(unittest.TestCase):
    def assert_no_text(self, read, holes, text):
        with self.subTest(read=read.__name__, text=repr(text)[:40] if isinstance(text, str) else "no text"):
            with self.assertRaises(NoText):
                read(holes, text)

    def test_words(self):
        for text in NO_WORDS + ("0 1", " ", "0 ", " 0", "- -"):
            self.assert_no_text(read_word, 8, text)

    def test_decks_and_codes(self):
        for read in (read_deck, read_code):
            for text in NO_WORDS:
                # Of a deck of none the text is none.
                for whole in [text] * (text != "none") + [text + " 3", "3 " + text, "3 " + text + " 4"]:
                    self.assert_no_text(read, 8, whole)
            for text in (" ", "  ", " 0", "0 ", "0  1", "0   1", "none none", "none 0", "0 none", " none", "none ",
                         "0\t1", "0\n1", "0 1\n", "0 1,"):
                self.assert_no_text(read, 8, text)

    def test_codes_with_two_words_alike(self):
        for text in ("0 0", "- -", "0,1 2 0,1", "0 1 2 3 4 4"):
            self.assert_no_text(read_code, 8, text)
            self.assertEqual(show_deck(read_deck(8, text)), text)

    def test_rows(self):
        for text in NO_WORDS:
            for side in (":f", ":b"):
                for whole in (text + side, text + side + " 3:f", "3:f " + text + side):
                    self.assert_no_text(read_row, 8, whole)
        for text in ("", " ", "-", "0", "0,1", "0:", "0:x", "0:F", "0:front", "0:back", "0:ff", "0:fb", "0:f:f", "0::f",
                     ":f", ":", "f", "b", "0f", "0 :f", "0: f", "0:f ", " 0:f", "0:f  0:b", "0:f,0:b", "0:f 0",
                     "0 0:f", "none:f", "none 0:f", "0:f none", "none none", "none ", " none", "0:f\n", "0:\nf",
                     "0:f\t0:b", "8:f", "0,8:b", "1,0:f", "00:f", "0:f 0,0:b"):
            self.assert_no_text(read_row, 8, text)

    def test_places_not_below_the_holes(self):
        for holes in range(1, 61):
            self.assertEqual(read_word(holes, str(holes - 1)), (holes - 1,))
            for text in (str(holes), f"0,{holes}", str(holes + 1), "60", "61"):
                for read in (read_word, read_deck, read_code):
                    self.assert_no_text(read, holes, text)
                self.assert_no_text(read_row, holes, text + ":f")

    def test_what_is_no_text(self):
        for thing in (None, 0, 1, True, False, -1, 1.5, b"", b"-", b"0", (), (0,), [], ["0"], ["none"], {}, {"0": 0},
                      set(), ("0:f",), read_word, str, Unfriendly(), [Unfriendly()], (Unfriendly(),)):
            for read in READERS:
                self.assert_no_text(read, 8, thing)

    def test_long_texts(self):
        for read, text in ((read_word, ",".join(["0"] * 2000)), (read_deck, " " * 4000), (read_row, "0:f" * 1333),
                           (read_code, "0 " * 2000), (read_word, "9" * 4000), (read_word, "9" * 5000),
                           (read_deck, "0 " + "9" * 5000), (read_row, "9" * 5000 + ":f")):
            self.assert_no_text(read, 60, text)
        self.assertEqual(read_deck(60, "- " * 1999 + "-"), [()] * 2000)

    def test_asked_again_the_same(self):
        for read in READERS:
            for turn in range(2):
                self.assert_no_text(read, 8, "0,0")


if __name__ == "__main__":
    unittest.main()
