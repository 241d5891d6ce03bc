"""Several values in one field: words of a code cut into one card, and looked up in it."""

from needledeck.codes import words_of
from needledeck.words import together, within


def cut_in(code, numbers):
    """Tell the word that the words with these numbers make when they are cut into one card."""
    word = ()
    for number in numbers:
        word = together(word, code[number])
    return word


def number_lists(many, several):
    """Tell all rising lists of at most several numbers below many, shorter ones ahead of longer ones."""
    # A rising list of numbers below many has the form of a word of many holes.
    return [list(word) for size in range(min(several, many) + 1) for word in words_of(many, size)]


def clean(code, several):
    """Tell whether no word lies within what at most several others have, or one and the fewest others."""
    # The shorter lists come first, so the first that covers any word is of as few as can be.
    for others in number_lists(len(code), several):
        made = cut_in(code, others)
        for i, word in enumerate(code):
            if i not in others and within(word, made):
                return ("covered", i, others)
    return ("clean",)


def looked_up(code, card):
    """Tell the numbers of all words of a code that lie within a card."""
    return [number for number, word in enumerate(code) if within(word, card)]


def apart(code, several):
    """Tell whether unlike lists of at most several numbers make unlike words, or two that don't."""
    made = {}
    for numbers in number_lists(len(code), several):
        word = cut_in(code, numbers)
        if word in made:
            return ("same", made[word], numbers)
        made[word] = numbers
    return ("apart",)
