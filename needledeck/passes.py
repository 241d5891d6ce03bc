"""Rows of passes: tuples (needles, side), done with a deck one after the other."""

from needledeck.decks import needled
from needledeck.words import all_words, within


def done(deck, row):
    """Tell the deck behind a row of passes."""
    lying = list(deck)
    for needles, side in row:
        drops, kept = needled(lying, needles)
        if side == "front":
            lying = drops + kept
        else:
            lying = kept + drops
    return lying


def ahead(row, one, other):
    """Tell which of two cards comes ahead by a row: "one", "other", or "laid", the one that lay ahead."""
    # Each pass that parts the two undoes what earlier ones did to them, so the last such one tells.
    for needles, side in reversed(row):
        drops = within(needles, one)
        if drops != within(needles, other):
            return "one" if drops == (side == "front") else "other"
    return "laid"


def put_otherwise(deck, row, other):
    """Tell two cards of a deck of unlike cards, as they lie, that two rows put otherwise, or []."""
    for here, there in zip(done(deck, row), done(deck, other)):
        # Up to here both rows put the same cards, so each of the two comes ahead by one of the rows.
        if here != there:
            return [card for card in deck if card in (here, there)]
    return []


def alike(holes, row, other):
    """Tell whether two rows put every deck alike, or two cards that, lying so, they put otherwise."""
    # How two cards come to lie hangs on nothing but the two and which of them lay ahead. So all decks
    # are seen in two: in these any two unlike cards lie once this way and once that way.
    words = all_words(holes)
    for deck in (words, words[::-1]):
        two = put_otherwise(deck, row, other)
        if two:
            return ("apart", two[0], two[1])
    return ("alike",)


def is_idle(holes, row, at):
    """Tell whether a row without the pass at this number puts every deck as the row does."""
    return alike(holes, row, row[:at] + row[at + 1:]) == ("alike",)


def idle(holes, row):
    """Tell the numbers of the passes without which, each alone, the row puts every deck alike."""
    return [at for at in range(len(row)) if is_idle(holes, row, at)]


def thinned(holes, row):
    """Tell a row of some of the passes that puts every deck alike and has no idle pass."""
    # A pass that isn't idle parts two cards that no later pass parts, and that earlier passes leave
    # otherwise: so it stays needed when later ones are taken out, and is looked at once.
    left = list(row)
    at = 0
    while at < len(left):
        if is_idle(holes, left, at):
            del left[at]
        else:
            at += 1
    return left


def sorting(places):
    """Tell the row that sorts decks by their cards' notches at these places, the first place first."""
    return [((place,), "back") for place in reversed(places)]
