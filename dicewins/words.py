"""Words: decks with one letter for each face."""

from dicewins.amounts import check_int, is_int, is_row
from dicewins.cups import Cup, letters_of, shared_rank
from dicewins.errors import BadNumber, BadWord, NotDeck
from dicewins.tables import table_of


def own_word(word):
    """The word over the dice from 0 to its greatest letter."""
    if not is_row(word):
        raise BadWord(-1)
    for place, letter in enumerate(word):
        if not is_int(letter) or letter < 0:
            raise BadWord(place)
    if not word:
        raise BadWord(-2)
    return letters_of(word, max(word) + 1)


def turned_at(row, place):
    """The tuple with its entries at the place and just behind it exchanged."""
    return row[:place] + (row[place + 1], row[place]) + row[place + 2:]


def word_of(cup):
    """The word of a deck."""
    dice = Cup.checked(cup)
    rank = shared_rank(dice)
    if rank is not None:
        raise NotDeck(rank)
    letters = []
    for entries in zip(*dice):
        for number, entry in enumerate(entries):
            letters.extend([number] * entry)
    return tuple(letters)


def check_word(word, many):
    """The word over many dice, as a tuple."""
    check_int(many, "many", 1)
    return letters_of(word, many)


def word_table(word, many):
    """The table of the cup of the word."""
    return table_of(Cup.of_word(word, many))


def exchange_place(letters, at):
    """The place, if there is an exchange at it in a word that is known to be one."""
    if not is_int(at) or not 0 <= at < len(letters) - 1 or letters[at] == letters[at + 1]:
        raise BadNumber("at")
    return at


def swapped(word, at):
    """The word behind the exchange at the place."""
    letters = own_word(word)
    return turned_at(letters, exchange_place(letters, at))
