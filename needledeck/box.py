"""A box: cards with names in three heaps, deeds that move and cut them, and the way back."""

from needledeck.errors import NoBack, NoName, NoSide
from needledeck.words import check_holes, check_word, together, within

HEAPS = ("box", "hand", "table")
LETTERS = "abcdefghijklmnopqrstuvwxyz"
LONGEST_NAME = 8


def check_name(name):
    """Refuse what is no name with NoName."""
    # What is no text is not compared with anything: it may be anything.
    if not isinstance(name, str) or len(name) < 1 or len(name) > LONGEST_NAME:
        raise NoName(f"a name is a text of one to {LONGEST_NAME} letters")
    if not all([sign in LETTERS for sign in name]):
        raise NoName("a name has letters from a to z alone")


def check_side(side):
    """Refuse what is no side with NoSide."""
    if not isinstance(side, str) or side not in ("front", "back"):
        raise NoSide("a side is front or back")


def check_row(holes, row):
    """Refuse a row of passes with NoWord or NoSide, pass by pass, the needles ahead of the side."""
    for needles, side in row:
        check_word(holes, needles)
        check_side(side)


def needled_cards(cards, needles):
    """Tell the cards (name, word) that drop at the needles and those that are kept, each as they lay."""
    drops = [card for card in cards if within(needles, card[1])]
    kept = [card for card in cards if not within(needles, card[1])]
    return (drops, kept)


def laid(cards, others, side):
    """Tell the heap with cards put ahead of others or behind them."""
    return cards + others if side == "front" else others + cards


def cut_card(card, name, places):
    """Tell a card, cut more where it has the name."""
    return (name, together(card[1], places)) if card[0] == name else card


class Box:
    """So many holes, and the heaps box, hand and table."""

    def __init__(self, holes):
        check_holes(holes)
        self.holes = holes
        # No list in these is changed once it is made: so what lay earlier is kept without a copy.
        self.lying = ([], [], [])
        self.earlier = []

    def let_lie(self, box, hand, table):
        """Let the heaps lie so from now on: one deed."""
        self.earlier.append(self.lying)
        self.lying = (box, hand, table)

    def place_of(self, name):
        """Tell where a card lies, as its heap and its number there, or refuse the name with NoName."""
        check_name(name)
        for heap, cards in zip(HEAPS, self.lying):
            for number, card in enumerate(cards):
                if card[0] == name:
                    return (heap, number)
        raise NoName("no card with this name is there")

    def word_of(self, name):
        """Tell the word of a card, or refuse the name with NoName."""
        heap, number = self.place_of(name)
        return self.lying[HEAPS.index(heap)][number][1]

    def has_card(self, name):
        """Tell whether a card with a name is there."""
        return any([card[0] == name for cards in self.lying for card in cards])

    def add(self, name, word):
        """Put a new card behind the box's others."""
        check_name(name)
        if self.has_card(name):
            raise NoName("a card with this name is there already")
        check_word(self.holes, word)
        box, hand, table = self.lying
        self.let_lie(box + [(name, word)], hand, table)

    def needle(self, needles):
        """Needle the box: what drops comes to the hand, behind what is there."""
        check_word(self.holes, needles)
        box, hand, table = self.lying
        drops, kept = needled_cards(box, needles)
        self.let_lie(kept, hand + drops, table)

    def lay(self, side):
        """Lay the hand ahead of the box or behind it."""
        check_side(side)
        box, hand, table = self.lying
        self.let_lie(laid(hand, box, side), [], table)

    def set_by(self):
        """Set the hand by, behind the table's cards."""
        box, hand, table = self.lying
        self.let_lie(box, [], table + hand)

    def take_up(self):
        """Take the table up, behind the box's cards."""
        box, hand, table = self.lying
        self.let_lie(box + table, hand, [])

    def go(self, row):
        """Do a row of passes with the box alone."""
        check_row(self.holes, row)
        box, hand, table = self.lying
        for needles, side in row:
            drops, kept = needled_cards(box, needles)
            box = laid(drops, kept, side)
        self.let_lie(box, hand, table)

    def cut(self, name, places):
        """Cut a card more, wherever it lies."""
        self.place_of(name)
        check_word(self.holes, places)
        box, hand, table = [[cut_card(card, name, places) for card in cards] for cards in self.lying]
        self.let_lie(box, hand, table)

    def take(self, name):
        """Take a card out, wherever it lies."""
        self.place_of(name)
        box, hand, table = [[card for card in cards if card[0] != name] for cards in self.lying]
        self.let_lie(box, hand, table)

    def undo(self):
        """Let all lie as it did ahead of the last deed that was not undone, or refuse with NoBack."""
        if not self.earlier:
            raise NoBack("no deed is left")
        self.lying = self.earlier.pop()

    def heaps(self):
        """Tell the heaps box, hand and table, each a list of tuples (name, word) from the front on."""
        box, hand, table = self.lying
        return (list(box), list(hand), list(table))
