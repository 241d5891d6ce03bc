"""Counts of all needlings: for each word, in the words' order, how many cards of a deck drop at it."""

from needledeck.words import all_words, together


def order_of(holes):
    """Tell for each word its number in the words' order; they are walked in that order, too."""
    return {word: number for number, word in enumerate(all_words(holes))}


def put_to(numbers, order, place, times):
    """Tell numbers anew: each word without a place gets so many times that of the word that has it, too."""
    return [number if place in word else number + times * numbers[order[together(word, (place,))]]
            for word, number in zip(order, numbers)]


def counts(holes, deck):
    """Tell for each word how many cards of a deck drop when it is needled with that word."""
    order = order_of(holes)
    told = [0] * len(order)
    for card in deck:
        told[order[card]] += 1
    # At places gone through a word counts cards with notches beyond its own, at the others none but its like.
    for place in range(holes):
        told = put_to(told, order, place, 1)
    return told


def parted_by(order, numbers, places):
    """Tell for each word how many of the cards it counts are notched at none of the places that it hasn't."""
    told = numbers
    for place in places:
        told = put_to(told, order, place, -1)
    return told


def deck_of(holes, numbers):
    """Tell the deck of which these are the counts, or a word of which there would be fewer than 0 cards."""
    order = order_of(holes)
    many = parted_by(order, numbers, tuple(range(holes)))
    for word, cards in zip(order, many):
        if cards < 0:
            return ("never", word)
    return ("deck", [word for word, cards in zip(order, many) for card in range(cards)])


def just(holes, numbers, notched, whole):
    """Tell how many cards are notched at all places of one word and at none of another one."""
    order = order_of(holes)
    return parted_by(order, numbers, whole)[order[notched]]
