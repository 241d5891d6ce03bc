"""A desk: a box of eight holes and a code, told lines, and an answer to each."""

from needledeck.box import Box
from needledeck.codes import plain
from needledeck.decks import needled
from needledeck.errors import NoCount, NoLine, NoText
from needledeck.fewest import fewest_places
from needledeck.passes import ahead, alike, idle
from needledeck.several import apart, clean, looked_up
from needledeck.tears import mends, tells, torn_of
from needledeck.texts import read_code, read_number, read_row, read_word, show_word

HOLES = 8
MOST_SEVERAL = 3

# By a line's first word: how many words stand behind it, just so many or at least so many.
JUST = {"add": 2, "needle": 1, "lay": 1, "setby": 0, "takeup": 0, "cut": 2, "take": 1, "undo": 0, "box": 0, "hand": 0,
        "table": 0, "where": 1, "drop": 1, "plain": 0, "clean": 1, "apart": 1, "look": 1, "tells": 1, "mends": 1,
        "torn": 2, "fewest": 0}
AT_LEAST = {"pass": 1, "code": 1, "ahead": 3, "alike": 1, "idle": 1}


def is_line(words):
    """Tell whether words are a line, by the first one and how many stand behind it."""
    first = words[0]
    behind = len(words) - 1
    if first in AT_LEAST:
        return behind >= AT_LEAST[first]
    return first in JUST and behind == JUST[first]


def row_of(words):
    """Tell the row of passes that is all that follows in a line."""
    return read_row(HOLES, " ".join(words))


def several_of(word):
    """Tell how many values lie in one field, or refuse the word with NoText or NoCount."""
    several = read_number(word)
    if several < 1 or several > MOST_SEVERAL:
        raise NoCount(f"several are 1 to {MOST_SEVERAL}")
    return several


def with_blanks(numbers):
    """Tell numbers with a blank between two, or none."""
    return " ".join([str(number) for number in numbers]) if numbers else "none"


def with_commas(numbers):
    """Tell numbers with a comma between two, or none."""
    return ",".join([str(number) for number in numbers]) if numbers else "none"


def show_heap(cards):
    """Tell the cards of a heap, or none."""
    return " ".join([f"{name}={show_word(word)}" for name, word in cards]) if cards else "none"


def box_deck(desk):
    """Tell the words of the cards that lie in the box's own heap."""
    return [word for name, word in desk.box.heaps()[0]]


def do_add(desk, words):
    """add NAME WORD"""
    desk.box.add(words[0], read_word(HOLES, words[1]))


def do_needle(desk, words):
    """needle WORD"""
    desk.box.needle(read_word(HOLES, words[0]))


def do_lay(desk, words):
    """lay SIDE"""
    desk.box.lay(words[0])


def do_set_by(desk, words):
    """setby"""
    desk.box.set_by()


def do_take_up(desk, words):
    """takeup"""
    desk.box.take_up()


def do_cut(desk, words):
    """cut NAME WORD"""
    desk.box.cut(words[0], read_word(HOLES, words[1]))


def do_take(desk, words):
    """take NAME"""
    desk.box.take(words[0])


def do_undo(desk, words):
    """undo"""
    desk.box.undo()


def do_pass(desk, words):
    """pass ROW"""
    desk.box.go(row_of(words))


def do_code(desk, words):
    """code WORDS"""
    desk.code = read_code(HOLES, " ".join(words))


def ask_box(desk, words):
    """box"""
    return show_heap(desk.box.heaps()[0])


def ask_hand(desk, words):
    """hand"""
    return show_heap(desk.box.heaps()[1])


def ask_table(desk, words):
    """table"""
    return show_heap(desk.box.heaps()[2])


def ask_where(desk, words):
    """where NAME"""
    heap, number = desk.box.place_of(words[0])
    return f"{heap} {number}"


def ask_drop(desk, words):
    """drop WORD"""
    drops, kept = needled(box_deck(desk), read_word(HOLES, words[0]))
    return str(len(drops))


def ask_ahead(desk, words):
    """ahead NAME NAME ROW"""
    row = row_of(words[2:])
    return ahead(row, desk.box.word_of(words[0]), desk.box.word_of(words[1]))


def ask_alike(desk, words):
    """alike ROW / ROW"""
    # Where a stroke is the first or the last word, nothing is on its side: an empty text is no row either.
    if "/" not in words:
        raise NoText("two rows have a stroke between")
    stroke = words.index("/")
    row = row_of(words[:stroke])
    other = row_of(words[stroke + 1:])
    told = alike(HOLES, row, other)
    return "alike" if told[0] == "alike" else f"{show_word(told[1])} {show_word(told[2])}"


def ask_idle(desk, words):
    """idle ROW"""
    return with_blanks(idle(HOLES, row_of(words)))


def ask_plain(desk, words):
    """plain"""
    told = plain(desk.code)
    return "plain" if told[0] == "plain" else f"{told[1]} {told[2]}"


def ask_clean(desk, words):
    """clean N"""
    told = clean(desk.code, several_of(words[0]))
    return "clean" if told[0] == "clean" else with_blanks([told[1]] + told[2])


def ask_apart(desk, words):
    """apart N"""
    told = apart(desk.code, several_of(words[0]))
    return "apart" if told[0] == "apart" else f"{with_commas(told[1])} {with_commas(told[2])}"


def ask_look(desk, words):
    """look NAME"""
    return with_blanks(looked_up(desk.code, desk.box.word_of(words[0])))


def ask_tells(desk, words):
    """tells N"""
    told = tells(desk.code, read_number(words[0]))
    return "tells" if told[0] == "tells" else f"{told[1]} {told[2]}"


def ask_mends(desk, words):
    """mends N"""
    told = mends(desk.code, read_number(words[0]))
    return "mends" if told[0] == "mends" else f"{told[1]} {told[2]}"


def ask_torn(desk, words):
    """torn N WORD"""
    tears = read_number(words[0])
    return with_blanks(torn_of(desk.code, tears, read_word(HOLES, words[1])))


def ask_fewest(desk, words):
    """fewest"""
    told = fewest_places(HOLES, box_deck(desk))
    return show_word(told[1]) if told[0] == "places" else f"{told[1]} {told[2]}"


DEEDS = {"add": do_add, "needle": do_needle, "lay": do_lay, "setby": do_set_by, "takeup": do_take_up, "cut": do_cut,
         "take": do_take, "undo": do_undo, "pass": do_pass, "code": do_code}
QUESTIONS = {"box": ask_box, "hand": ask_hand, "table": ask_table, "where": ask_where, "drop": ask_drop,
             "ahead": ask_ahead, "alike": ask_alike, "idle": ask_idle, "plain": ask_plain, "clean": ask_clean,
             "apart": ask_apart, "look": ask_look, "tells": ask_tells, "mends": ask_mends, "torn": ask_torn,
             "fewest": ask_fewest}


class Desk:
    """A box of eight holes and a code, none at first, of as many."""

    def __init__(self):
        self.box = Box(HOLES)
        self.code = []

    def say(self, line):
        """Tell the answer to a line, or refuse it, with nothing changed."""
        words = line.split(" ") if isinstance(line, str) else [""]
        if not is_line(words):
            raise NoLine("this is none of a desk's lines")
        if words[0] in DEEDS:
            deed = DEEDS[words[0]]
            deed(self, words[1:])
            return "ok"
        question = QUESTIONS[words[0]]
        return question(self, words[1:])
