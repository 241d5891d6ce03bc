"""Decks: lists of cards from the front on, each card a word; and needles, a word, put through them."""

from needledeck.words import within


def needled(deck, needles):
    """Tell what drops at the needles and what is kept, each in the order in which it lay."""
    dropped = []
    kept = []
    for card in deck:
        if within(needles, card):
            dropped.append(card)
        else:
            kept.append(card)
    return (dropped, kept)
