"""Points 33 and 34, and points 2 to 4 as far as they speak of a desk."""

import inspect
import random
import unittest

from common import Unfriendly, words
from needledeck.box import Box
from needledeck.codes import plain
from needledeck.decks import needled
from needledeck.desk import Desk
from needledeck.errors import NoBack, NoCount, NoLine, NoName, NoSide, NoText, NoWord
from needledeck.fewest import fewest_places
from needledeck.passes import ahead, alike, idle
from needledeck.several import apart, clean, looked_up
from needledeck.tears import mends, tells, torn_of
from needledeck.texts import show_deck, show_row, show_word

SIDES = ("front", "back")

# Each line's first word, with words that may stand behind it.
LINES = {"add": "gus 3", "needle": "0", "lay": "front", "setby": None, "takeup": None, "cut": "bob 7", "take": "bob",
         "undo": None, "pass": "0:f", "code": "0 1", "box": None, "hand": None, "table": None, "where": "bob",
         "drop": "0", "ahead": "ann bob 0:f", "alike": "0:f / 1:f", "idle": "0:f", "plain": None, "clean": "1",
         "apart": "1", "look": "ann", "tells": "1", "mends": "1", "torn": "1 0", "fewest": None}
OPEN = {"pass": 1, "code": 1, "ahead": 3, "alike": 1, "idle": 1}

NO_WORDS = ("", "8", "0,8", "1,0", "0,0", "00", "01", "0,", ",0", "0,,1", "--", "x", "none", "0:f", "0\n", "-1", "+1",
            "100000000000000000000")
NO_NUMBERS = ("", "00", "01", "-1", "-", "+1", "1.0", "x", "none", "1,2", "1\n", "1:f", "100000000000000000000", "0" * 21,
              "9" * 4000)
NO_ROWS = ("", "0", "0:", "0:x", "8:f", "1,0:f", "0:f ", " 0:f", "0:f  1:f", "0:front", "none 0:f", "0:f none", "x", "/",
           "0:f / 1:f", "none none", "00:f")


def said(*lines):
    desk = Desk()
    for line in lines:
        desk.say(line)
    return desk


def some_desk():
    """A desk with cards in each heap, nine deeds behind it, and a code."""
    return said("add ann 0,1", "add bob 1", "add cid 2", "add dot -", "add eve 0,2", "add fay 1,2", "needle 0", "setby",
                "needle 2", "code 0,1 0,2 1,3 4")


SOME = {"box": "bob=1 dot=-", "hand": "cid=2 fay=1,2", "table": "ann=0,1 eve=0,2"}


class DeskCase(unittest.TestCase):
    def assert_answer(self, desk, line, answer):
        told = desk.say(line)
        self.assertIs(type(told), str)
        self.assertEqual(told, answer)

    def assert_heaps(self, desk, **heaps):
        for heap, cards in heaps.items():
            self.assert_answer(desk, heap, cards)

    def assert_refused(self, desk, error, line):
        with self.subTest(line=line[:40] if isinstance(line, str) else "no text"):
            with self.assertRaises(error) as caught:
                desk.say(line)
            self.assertIs(type(caught.exception), error)

    def assert_some(self, desk):
        """The desk is as some_desk told it, and so is what can be undone."""
        self.assert_heaps(desk, **SOME)
        for line, answer in (("plain", "plain"), ("clean 1", "clean"), ("clean 2", "0 1 2"), ("look ann", "0")):
            self.assert_answer(desk, line, answer)
        for turn in range(9):
            self.assert_answer(desk, "undo", "ok")
        self.assert_heaps(desk, box="none", hand="none", table="none")
        self.assert_refused(desk, NoBack, "undo")
        self.assert_answer(desk, "clean 2", "0 1 2")


class TestInterface(unittest.TestCase):
    def test_names_and_arguments(self):
        self.assertEqual(list(inspect.signature(Desk).parameters), [])
        self.assertEqual(list(inspect.signature(Desk.say).parameters), ["self", "line"])


class TestDeeds(DeskCase):
    def test_none_at_first(self):
        desk = Desk()
        self.assert_heaps(desk, box="none", hand="none", table="none")
        for line, answer in (("plain", "plain"), ("clean 3", "clean"), ("apart 3", "apart"), ("tells 60", "tells"),
                             ("mends 60", "mends"), ("torn 60 0,1", "none"), ("fewest", "-"), ("drop -", "0")):
            self.assert_answer(desk, line, answer)
        self.assert_refused(desk, NoBack, "undo")

    def test_add(self):
        desk = Desk()
        self.assert_answer(desk, "add bob 1,7", "ok")
        self.assert_answer(desk, "add ann -", "ok")
        self.assert_answer(desk, "add none 0", "ok")
        self.assert_heaps(desk, box="bob=1,7 ann=- none=0", hand="none", table="none")

    def test_needle(self):
        desk = some_desk()
        self.assert_heaps(desk, **SOME)
        self.assert_answer(desk, "needle 1", "ok")
        self.assert_heaps(desk, box="dot=-", hand="cid=2 fay=1,2 bob=1", table=SOME["table"])
        self.assert_answer(desk, "needle -", "ok")
        self.assert_heaps(desk, box="none", hand="cid=2 fay=1,2 bob=1 dot=-", table=SOME["table"])

    def test_lay(self):
        for side, box in (("front", "cid=2 fay=1,2 bob=1 dot=-"), ("back", "bob=1 dot=- cid=2 fay=1,2")):
            desk = some_desk()
            self.assert_answer(desk, "lay " + side, "ok")
            self.assert_heaps(desk, box=box, hand="none", table=SOME["table"])

    def test_set_by_and_take_up(self):
        desk = some_desk()
        self.assert_answer(desk, "setby", "ok")
        self.assert_heaps(desk, box=SOME["box"], hand="none", table="ann=0,1 eve=0,2 cid=2 fay=1,2")
        self.assert_answer(desk, "takeup", "ok")
        self.assert_heaps(desk, box="bob=1 dot=- ann=0,1 eve=0,2 cid=2 fay=1,2", hand="none", table="none")

    def test_cut_and_take(self):
        desk = some_desk()
        self.assert_answer(desk, "cut bob 0,7", "ok")
        self.assert_answer(desk, "cut fay 1", "ok")
        self.assert_answer(desk, "cut eve 1", "ok")
        self.assert_heaps(desk, box="bob=0,1,7 dot=-", hand="cid=2 fay=1,2", table="ann=0,1 eve=0,1,2")
        for name in ("bob", "cid", "eve"):
            self.assert_answer(desk, "take " + name, "ok")
        self.assert_heaps(desk, box="dot=-", hand="fay=1,2", table="ann=0,1")

    def test_pass_is_one_deed_of_the_box_alone(self):
        desk = said("add ann 0", "add bob 1", "add cid 0,1", "add dot -", "needle 0,1")
        self.assert_answer(desk, "pass 0:b 1:f", "ok")
        self.assert_heaps(desk, box="bob=1 dot=- ann=0", hand="cid=0,1", table="none")
        self.assert_answer(desk, "pass none", "ok")
        self.assert_heaps(desk, box="bob=1 dot=- ann=0", hand="cid=0,1")
        self.assert_answer(desk, "undo", "ok")
        self.assert_heaps(desk, box="bob=1 dot=- ann=0", hand="cid=0,1")
        self.assert_answer(desk, "undo", "ok")
        self.assert_heaps(desk, box="ann=0 bob=1 dot=-", hand="cid=0,1")

    def test_undo_each_deed(self):
        for line in ("add gus 7", "needle 1", "lay front", "lay back", "setby", "takeup", "cut bob 7", "take ann",
                     "pass 1:b", "pass none", "needle 7"):
            with self.subTest(line=line):
                desk = some_desk()
                self.assert_answer(desk, line, "ok")
                self.assert_answer(desk, "undo", "ok")
                self.assert_some(desk)

    def test_undo_leaves_the_code(self):
        desk = said("code 0", "add ann 0,1", "code 0 0,1")
        self.assert_answer(desk, "look ann", "0 1")
        self.assert_answer(desk, "undo", "ok")
        self.assert_answer(desk, "plain", "0 1")
        self.assert_refused(desk, NoBack, "undo")
        self.assert_answer(desk, "plain", "0 1")
        self.assert_answer(desk, "code none", "ok")
        self.assert_answer(desk, "plain", "plain")
        self.assert_refused(desk, NoBack, "undo")

    def test_questions_are_no_deeds(self):
        desk = said("add ann 0,1", "add bob 1")
        for first, behind in LINES.items():
            if first in ("add", "needle", "lay", "setby", "takeup", "cut", "take", "undo", "pass", "code"):
                continue
            desk.say(first if behind is None else f"{first} {behind}")
        desk.say("undo")
        self.assert_heaps(desk, box="ann=0,1", hand="none", table="none")


class TestQuestions(DeskCase):
    def assert_answers(self, desk, *pairs):
        for line, answer in pairs:
            with self.subTest(line=line):
                self.assert_answer(desk, line, answer)

    def test_where(self):
        self.assert_answers(some_desk(), ("where bob", "box 0"), ("where dot", "box 1"), ("where cid", "hand 0"),
                            ("where fay", "hand 1"), ("where ann", "table 0"), ("where eve", "table 1"))

    def test_drop(self):
        self.assert_answers(some_desk(), ("drop -", "2"), ("drop 1", "1"), ("drop 2", "0"), ("drop 0,1", "0"))

    def test_ahead(self):
        self.assert_answers(some_desk(), ("ahead ann bob 0:f", "one"), ("ahead ann bob 0:b", "other"),
                            ("ahead bob ann 0:f", "other"), ("ahead ann bob none", "laid"), ("ahead ann ann 0:f", "laid"),
                            ("ahead ann eve 0:f", "laid"), ("ahead cid eve 0:f 2:b", "other"),
                            ("ahead fay dot 0:f 1,2:b 1:f", "one"))

    def test_alike(self):
        self.assert_answers(Desk(), ("alike 0:f / 0:f", "alike"), ("alike none / none", "alike"),
                            ("alike none / -:f", "alike"), ("alike 0:b 0:f / 0:f", "alike"),
                            ("alike 0:f 1:b / 0:b 0:f 1:f 1:b", "alike"))
        for line, row, other in (("alike 0:f / none", [((0,), "front")], []),
                                 ("alike none / 7:b", [], [((7,), "back")]),
                                 ("alike 0:f 1:f / 1:f 0:f", [((0,), "front"), ((1,), "front")],
                                  [((1,), "front"), ((0,), "front")])):
            told = alike(8, row, other)
            self.assertEqual(told[0], "apart")
            self.assert_answer(Desk(), line, f"{show_word(told[1])} {show_word(told[2])}")

    def test_idle(self):
        self.assert_answers(Desk(), ("idle none", "none"), ("idle 0:f", "none"), ("idle -:f", "0"),
                            ("idle 0:f 0:f", "0 1"), ("idle 0:f 0:b", "0"), ("idle -:f 0:f -:b", "0 2"))

    def test_plain(self):
        self.assert_answers(some_desk(), ("plain", "plain"))
        self.assert_answers(said("code 0 1 0,1"), ("plain", "0 2"))
        self.assert_answers(said("code 5 0,1 -"), ("plain", "2 0"))

    def test_clean(self):
        self.assert_answers(some_desk(), ("clean 1", "clean"), ("clean 2", "0 1 2"), ("clean 3", "0 1 2"))
        self.assert_answers(said("code 0 -"), ("clean 1", "1"), ("clean 3", "1"))
        self.assert_answers(said("code 0 0,1"), ("clean 1", "0 1"))
        self.assert_answers(said("code 0,1,2 0,3 1,4 2,5"), ("clean 2", "clean"), ("clean 3", "0 1 2 3"))

    def test_apart(self):
        self.assert_answers(some_desk(), ("apart 1", "apart"), ("apart 2", "apart"))
        self.assertIn(some_desk().say("apart 3"), ("0,1,2 1,2", "1,2 0,1,2"))
        self.assertIn(said("code 0 -").say("apart 1"), ("none 1", "1 none"))
        self.assertIn(said("code 0,1 0").say("apart 2"), ("0 0,1", "0,1 0"))

    def test_look(self):
        desk = some_desk()
        self.assert_answers(desk, ("look ann", "0"), ("look bob", "none"), ("look eve", "1"), ("look dot", "none"))
        desk.say("cut dot 0,1,2,3,4")
        self.assert_answers(desk, ("look dot", "0 1 2 3"))
        desk.say("code - 2")
        self.assert_answers(desk, ("look cid", "0 1"), ("look bob", "0"))

    def test_tells_and_mends(self):
        desk = said("code 0 0,1,2 5,6,7")
        self.assert_answers(desk, ("tells 0", "tells"), ("tells 1", "tells"), ("tells 2", "0 1"), ("tells 60", "0 1"),
                            ("tells 99999999999999999999", "0 1"), ("mends 0", "mends"), ("mends 1", "mends"))
        self.assertIn(desk.say("mends 2"), ("0 1", "1 0"))
        self.assertIn(said("code 0 1").say("mends 1"), ("0 1", "1 0"))

    def test_torn(self):
        desk = said("code 0 0,1 - 2,3")
        self.assert_answers(desk, ("torn 0 0,1", "1"), ("torn 1 0,1", "0 1"), ("torn 60 0,1", "0 1 2"),
                            ("torn 0 5", "none"), ("torn 2 0,1,2,3", "1 3"), ("torn 1 -", "2"))

    def test_fewest(self):
        self.assert_answers(some_desk(), ("fewest", "1"))
        self.assert_answers(said("add ann 0"), ("fewest", "-"))
        self.assert_answers(said("add ann 0", "add bob 1", "add cid 1", "add dot 2"), ("fewest", "1 2"))
        self.assert_answers(said("add ann -", "add bob 3", "add cid 6", "add dot 3,6"), ("fewest", "3,6"))
        self.assert_answers(said("add ann 0", "add bob 0", "needle 0"), ("fewest", "-"))

    def test_of_what_is_kept_when_it_is_asked(self):
        desk = said("add ann 0", "code 0")
        self.assert_answers(desk, ("look ann", "0"), ("drop 0", "1"), ("drop 1", "0"))
        desk.say("cut ann 1")
        self.assert_answers(desk, ("look ann", "0"), ("drop 1", "1"))
        desk.say("code 1 0")
        self.assert_answers(desk, ("look ann", "0 1"))
        desk.say("undo")
        self.assert_answers(desk, ("look ann", "1"), ("drop 1", "0"))


class TestNoLine(DeskCase):
    def test_what_is_no_text(self):
        desk = some_desk()
        for line in (None, 0, True, 1.5, b"box", ("box",), ["box"], {}, set(), [], (), str, Unfriendly(), [Unfriendly()]):
            self.assert_refused(desk, NoLine, line)
        self.assert_some(desk)

    def test_other_first_words(self):
        desk = some_desk()
        for line in ("", " ", "  ", "Box", "BOX", " box", "boxes", "bo", "box\n", "\nbox", "\tbox", "box\t", "set_by",
                     "take_up", "setBy", "go 0:f", "Undo", "help", "quit", "none", "ok", "-", "0", "0 1", "add\tann 0",
                     " add gus 0", "needles 0", "passes 0:f", "mend 1", "words", "heaps", "say box", "x" * 4000):
            self.assert_refused(desk, NoLine, line)
        self.assert_some(desk)

    def test_too_few_words_or_too_many(self):
        desk = some_desk()
        for first, behind in LINES.items():
            many = 0 if behind is None else len(behind.split(" "))
            for size in range(6):
                if size < OPEN.get(first, many) or (size > many and first not in OPEN):
                    for word in ("0", "", "x", "8", "ann", "1:f"):
                        self.assert_refused(desk, NoLine, " ".join([first] + [word] * size))
                    if behind is not None:
                        full = behind.split(" ") + ["0"] * 5
                        self.assert_refused(desk, NoLine, " ".join([first] + full[:size]))
        self.assert_some(desk)

    def test_a_blank_at_the_end_is_one_word_more(self):
        for line in ("box ", "hand ", "table ", "setby ", "takeup ", "undo ", "plain ", "fewest ", "add gus 0 ",
                     "cut bob 0 ", "take bob ", "needle 0 ", "lay front ", "where bob ", "drop 0 ", "clean 1 ",
                     "torn 1 0 ", "look ann ", "tells 1 ", "add  gus 0", "lay  front"):
            desk = some_desk()
            self.assert_refused(desk, NoLine, line)
            self.assert_some(desk)

    def test_ahead_of_all_else(self):
        desk = Desk()
        for line in ("undo now", "add ? 9 9", "add ann", "lay up down", "clean 9 9", "clean", "torn 1", "alike",
                     "pass", "code", "idle", "ahead ann bob", "ahead x y", "where", "where a b"):
            self.assert_refused(desk, NoLine, line)
        self.assert_heaps(desk, box="none", hand="none", table="none")


class TestNoText(DeskCase):
    def test_words(self):
        desk = some_desk()
        for word in NO_WORDS:
            for line in ("add gus {}", "needle {}", "cut bob {}", "drop {}", "torn 1 {}", "code {}", "code 0 {}",
                         "code {} 0"):
                # A code of none is one, and a code's words follow one behind the other.
                if (line, word) != ("code {}", "none"):
                    self.assert_refused(desk, NoText, line.format(word))
        self.assert_some(desk)

    def test_numbers(self):
        desk = some_desk()
        for number in NO_NUMBERS:
            for line in ("clean {}", "apart {}", "tells {}", "mends {}", "torn {} 0"):
                self.assert_refused(desk, NoText, line.format(number))
        self.assert_some(desk)

    def test_rows(self):
        desk = some_desk()
        for row in NO_ROWS:
            for line in ("pass {}", "idle {}", "ahead ann bob {}", "alike {} / 0:f", "alike 0:f / {}"):
                self.assert_refused(desk, NoText, line.format(row))
        self.assert_some(desk)

    def test_alike_without_a_stroke_or_a_side(self):
        desk = some_desk()
        for line in ("alike ", "alike  ", "alike 0:f", "alike none", "alike 0:f 1:f", "alike /", "alike / ", "alike  /",
                     "alike  / ", "alike / 0:f", "alike  / 0:f", "alike 0:f /", "alike 0:f / ", "alike 0:f/1:f",
                     "alike 0:f /1:f", "alike 0:f/ 1:f", "alike 0:f  / 1:f", "alike 0:f /  1:f", "alike 0:f / 1:f / 2:f",
                     "alike 0:f / / 1:f", "alike 0:f // 1:f", "alike / / /", "alike 0:f / 1:f ", "alike 0:f \\ 1:f"):
            self.assert_refused(desk, NoText, line)
        self.assert_some(desk)

    def test_codes(self):
        desk = some_desk()
        for line in ("code ", "code 0 0", "code - -", "code 0,1 2 0,1", "code 0  1", "code 0 ", "code  0", "code 0 none",
                     "code none 0", "code none none", "code none ", "code 0:f"):
            self.assert_refused(desk, NoText, line)
        self.assert_some(desk)

    def test_ahead_of_what_the_box_and_the_functions_refuse(self):
        desk = some_desk()
        for line in ("add ann 8", "add ? 8", "add  x", "add gus ", "cut zoe 8", "cut ? x", "cut  ", "ahead zoe zoe 8:f",
                     "ahead ? ? x", "ahead   ", "torn x 8", "torn 1 8", "torn x 0", "clean 00", "apart 04"):
            self.assert_refused(desk, NoText, line)
        self.assert_some(desk)


class TestOtherRefusals(DeskCase):
    def test_names(self):
        desk = some_desk()
        for line in ("add ann 0", "add bob -", "add cid 7", "add ? 0", "add Gus 0", "add  0", "add abcdefghi 0", "add 0 0",
                     "cut zoe 0", "cut ? 0", "cut  0", "take zoe", "take ", "take 0", "where zoe", "where ", "where -",
                     "look zoe", "look ", "look Ann", "ahead zoe ann 0:f", "ahead ann zoe 0:f", "ahead  ann 0:f",
                     "ahead ann  0:f", "ahead zoe zoe none"):
            self.assert_refused(desk, NoName, line)
        self.assert_some(desk)

    def test_sides(self):
        desk = some_desk()
        for line in ("lay ", "lay f", "lay b", "lay Front", "lay side", "lay none", "lay 0", "lay front\n"):
            self.assert_refused(desk, NoSide, line)
        self.assert_some(desk)

    def test_several(self):
        desk = some_desk()
        for number in ("0", "4", "10", "60", "99999999999999999999"):
            for first in ("clean", "apart"):
                self.assert_refused(desk, NoCount, f"{first} {number}")
        self.assert_some(desk)

    def test_no_way_back(self):
        desk = Desk()
        self.assert_refused(desk, NoBack, "undo")
        desk.say("setby")
        desk.say("undo")
        self.assert_refused(desk, NoBack, "undo")

    def test_no_word_is_ever_refused_by_the_box(self):
        desk = some_desk()
        for line in ("add gus 8", "needle 9", "cut bob 60", "pass 8:f"):
            try:
                desk.say(line)
            except NoWord:
                self.fail(line)
            except NoText:
                pass
        self.assert_some(desk)


class Beside:
    """The answers by the functions and a box, asked beside the desk: lines as lists of things, not as texts."""

    def __init__(self):
        self.box = Box(8)
        self.code = []

    def word_of(self, name):
        return {name: word for cards in self.box.heaps() for name, word in cards}[name]

    def deck(self):
        return [word for name, word in self.box.heaps()[0]]

    def numbers(self, numbers, between=" "):
        return between.join(map(str, numbers)) or "none"

    def heap(self, at):
        return " ".join(f"{name}={show_word(word)}" for name, word in self.box.heaps()[at]) or "none"

    def deed(self, kind, things):
        deeds = {"setby": "set_by", "takeup": "take_up", "pass": "go"}
        if kind == "code":
            self.code = things[0]
        else:
            getattr(self.box, deeds.get(kind, kind))(*things)
        return "ok"

    def of_the_code(self, kind, things):
        if kind == "plain":
            told = plain(self.code)
            return " ".join(map(str, told if len(told) == 1 else told[1:]))
        if kind == "clean":
            told = clean(self.code, things[0])
            return "clean" if len(told) == 1 else self.numbers([told[1]] + told[2])
        if kind == "apart":
            told = apart(self.code, things[0])
            return " ".join(self.numbers(part, ",") for part in told[1:]) or "apart"
        if kind == "torn":
            return self.numbers(torn_of(self.code, things[0], things[1]))
        told = {"tells": tells, "mends": mends}[kind](self.code, things[0])
        return kind if len(told) == 1 else f"{told[1]} {told[2]}"

    def question(self, kind, things):
        if kind in ("box", "hand", "table"):
            return self.heap(("box", "hand", "table").index(kind))
        if kind == "where":
            return " ".join(map(str, self.box.place_of(things[0])))
        if kind == "drop":
            return str(len(needled(self.deck(), things[0])[0]))
        if kind == "ahead":
            return ahead(things[2], self.word_of(things[0]), self.word_of(things[1]))
        if kind == "alike":
            return " ".join(map(show_word, alike(8, things[0], things[1])[1:])) or "alike"
        if kind == "idle":
            return self.numbers(idle(8, things[0]))
        if kind == "look":
            return self.numbers(looked_up(self.code, self.word_of(things[0])))
        if kind == "fewest":
            told = fewest_places(8, self.deck())
            return show_word(told[1]) if told[0] == "places" else f"{told[1]} {told[2]}"
        return self.of_the_code(kind, things)

    def say(self, kind, things):
        if kind in ("add", "needle", "lay", "setby", "takeup", "cut", "take", "undo", "pass", "code"):
            return self.deed(kind, things)
        return self.question(kind, things)


def shown(kind, things):
    """A line's text."""
    parts = [kind]
    for thing in things:
        if isinstance(thing, tuple):
            parts.append(show_word(thing))
        elif isinstance(thing, list):
            parts.append(show_deck(thing) if kind == "code" else show_row(thing))
        else:
            parts.append(str(thing))
    if kind == "alike":
        parts.insert(2, "/")
    return " ".join(parts)


class TestAsTheFunctionsAnswer(DeskCase):
    def some_line(self, chance, beside, names, deeds):
        here = [name for cards in beside.box.heaps() for name, word in cards]
        free = [name for name in names if name not in here]
        word = chance.choice(words(8)[:93])
        row = [(chance.choice(words(8)[:37]), chance.choice(SIDES)) for turn in range(chance.randrange(5))]
        other = list(row) if chance.randrange(3) else row[1:]
        lines = [("needle", [word[:2]]), ("lay", [chance.choice(SIDES)]), ("setby", []), ("takeup", []),
                 ("pass", [row]), ("box", []), ("hand", []), ("table", []), ("drop", [word]), ("idle", [row]),
                 ("alike", [row, other]), ("plain", []), ("clean", [chance.randrange(1, 4)]),
                 ("apart", [chance.randrange(1, 4)]), ("tells", [chance.randrange(5)]), ("mends", [chance.randrange(5)]),
                 ("torn", [chance.randrange(5), word]), ("fewest", []),
                 ("code", [chance.sample(words(8)[1:93], chance.randrange(8))])]
        lines += [("undo", [])] * (2 if deeds else 0)
        if free:
            lines += [("add", [chance.choice(free), word])] * 4
        if here:
            name = chance.choice(here)
            lines += [("cut", [name, word[:1]]), ("take", [name]), ("where", [name]), ("look", [name]),
                      ("ahead", [name, chance.choice(here), row])]
        return chance.choice(lines)

    def say_lines(self, seed, many, names):
        chance = random.Random(seed)
        desk, beside = Desk(), Beside()
        deeds = 0
        kinds = set()
        for turn in range(many):
            kind, things = self.some_line(chance, beside, names, deeds)
            kinds.add(kind)
            with self.subTest(line=shown(kind, things)):
                self.assert_answer(desk, shown(kind, things), beside.say(kind, things))
            if kind == "undo":
                deeds -= 1
            elif kind in ("add", "needle", "lay", "setby", "takeup", "cut", "take", "pass"):
                deeds += 1
        return kinds

    def test_few_cards(self):
        kinds = set()
        for seed in range(300, 306):
            kinds |= self.say_lines(seed, 120, list("abcde"))
        self.assertEqual(kinds, set(LINES))

    def test_a_thousand_lines(self):
        self.assertEqual(self.say_lines(306, 1000, [one + other for one in "abc" for other in "abcd"]), set(LINES))

    def test_sixty_cards(self):
        chance = random.Random(307)
        desk, beside = Desk(), Beside()
        names = [one + other for one in "abcdefgh" for other in "abcdefgh"][:60]
        for name in names:
            word = chance.choice(words(8))
            self.assert_answer(desk, f"add {name} {show_word(word)}", beside.say("add", [name, word]))
        for kind, things in (("box", []), ("drop", [(0,)]), ("pass", [[((place,), "back") for place in range(8)]]),
                             ("box", []), ("needle", [(3,)]), ("hand", []), ("lay", ["front"]), ("box", [])):
            self.assert_answer(desk, shown(kind, things), beside.say(kind, things))

    def test_forty_words(self):
        code = [word for word in words(8) if len(word) == 4][:40]
        desk = said("code " + show_deck(code), "add ann 0,1,2,3,4")
        self.assert_answer(desk, "plain", "plain")
        self.assert_answer(desk, "tells 60", "tells")
        self.assert_answer(desk, "look ann", " ".join(str(at) for at, word in enumerate(code)
                                                     if set(word) <= {0, 1, 2, 3, 4}))


class TestOwn(DeskCase):
    def test_two_desks_know_nothing_of_each_other(self):
        one, other = some_desk(), Desk()
        other.say("add ann 5")
        other.say("code 5")
        self.assert_some(one)
        self.assert_heaps(other, box="ann=5", hand="none", table="none")
        self.assert_answer(other, "look ann", "0")
        other.say("undo")
        self.assert_refused(other, NoBack, "undo")
        self.assert_heaps(Desk(), box="none", hand="none", table="none")

    def test_asked_again_the_same(self):
        desk = some_desk()
        for line in ("box", "hand", "table", "where ann", "drop -", "plain", "clean 2", "apart 3", "fewest", "look ann"):
            self.assertEqual(desk.say(line), desk.say(line))
        self.assert_some(desk)

    def test_the_same_lines_the_same_answers(self):
        lines = ["add ann 0", "add bob 0,1", "needle 1", "code 0 0,1", "plain", "lay front", "box", "undo", "hand"]
        one, other = Desk(), Desk()
        for line in lines:
            self.assertEqual(one.say(line), other.say(line))


if __name__ == "__main__":
    unittest.main()
