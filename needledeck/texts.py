"""Texts that tell words, decks, rows of passes and codes, shown and read back."""

from needledeck.errors import NoText
from needledeck.words import is_word

FIGURES = "0123456789"
MOST_FIGURES = 20


def show_word(word):
    """Tell the text of a word."""
    return ",".join([str(place) for place in word]) if word else "-"


def show_deck(deck):
    """Tell the text of a deck, or of a code."""
    return " ".join([show_word(word) for word in deck]) if deck else "none"


def show_pass(needles, side):
    """Tell the text of one pass."""
    return show_word(needles) + (":f" if side == "front" else ":b")


def show_row(row):
    """Tell the text of a row of passes."""
    return " ".join([show_pass(needles, side) for needles, side in row]) if row else "none"


def check_text(thing):
    """Refuse what is no text with NoText."""
    if not isinstance(thing, str):
        raise NoText("what is read is a text")


def read_number(text):
    """Tell the whole number that a text tells, or refuse it with NoText."""
    check_text(text)
    if len(text) < 1 or len(text) > MOST_FIGURES or not all([sign in FIGURES for sign in text]):
        raise NoText(f"a number has one to {MOST_FIGURES} figures")
    if text[0] == "0" and text != "0":
        raise NoText("a number has no noughts ahead")
    return int(text)


def read_word(holes, text):
    """Tell the word that a text tells, or refuse it with NoText."""
    check_text(text)
    if text == "-":
        return ()
    word = tuple([read_number(part) for part in text.split(",")])
    if not is_word(holes, word):
        raise NoText("a word's places rise, and are less than the holes")
    return word


def parts_of(text):
    """Tell the parts of a text with a blank between two, of none where it says so, or refuse it with NoText."""
    check_text(text)
    return [] if text == "none" else text.split(" ")


def read_deck(holes, text):
    """Tell the deck that a text tells, or refuse it with NoText."""
    return [read_word(holes, part) for part in parts_of(text)]


def read_pass(holes, text):
    """Tell the pass that a text tells, or refuse it with NoText."""
    needles, colon, side = text.partition(":")
    word = read_word(holes, needles)
    if side not in ("f", "b"):
        raise NoText("a pass ends with a colon and f or b")
    return (word, "front" if side == "f" else "back")


def read_row(holes, text):
    """Tell the row of passes that a text tells, or refuse it with NoText."""
    return [read_pass(holes, part) for part in parts_of(text)]


def read_code(holes, text):
    """Tell the code that a text tells, or refuse it with NoText."""
    code = read_deck(holes, text)
    if len(set(code)) != len(code):
        raise NoText("a code's words are unlike")
    return code
