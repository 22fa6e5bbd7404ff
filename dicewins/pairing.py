"""Words over two dice, and the paired moves that keep their lead."""

from dicewins.cups import letters_of
from dicewins.exchanges import check_alike, count_turned, goals_of
from dicewins.words import turned_at


def pair_of_words(word, other):
    """Two alike words over dice 0 and 1, as tuples."""
    one = letters_of(word, 2)
    two = letters_of(other, 2)
    check_alike(one, two)
    return one, two


def pairs_won(word):
    """The number of pairs of a letter 0 and a letter 1 ahead of it."""
    return count_turned(word)


def turned_step(letters, goals, pair):
    """The first place where the pair of letters stands and is to be exchanged on the way to the goals."""
    for place in range(len(letters) - 1):
        if letters[place:place + 2] == pair and goals[place] > goals[place + 1]:
            return place
    return None


def paired_moves(word, other):
    """The fewest paired moves from the one word to the other, None if the leads differ."""
    one, two = pair_of_words(word, other)
    if pairs_won(one) != pairs_won(two):
        return None
    return count_turned(goals_of(one, two)) // 2


def paired_way(word, other):
    """The words of a way of fewest paired moves, both ends included, None if the leads differ."""
    one, two = pair_of_words(word, other)
    if pairs_won(one) != pairs_won(two):
        return None
    goals = goals_of(one, two)
    way = [one]
    for _ in range(count_turned(goals) // 2):
        letters = way[-1]
        # equal leads: as long as one step up is left, one step down is left, too
        for pair in ((0, 1), (1, 0)):
            place = turned_step(letters, goals, pair)
            letters = turned_at(letters, place)
            goals = turned_at(goals, place)
        way.append(letters)
    return way


def same_lead(word):
    """True if some other word over two dice has the same letters and the same lead."""
    letters = letters_of(word, 2)
    zeros = letters.count(0)
    ones = letters.count(1)
    if zeros == 1 or ones == 1:
        return False
    # within one exchange of all 0 ahead of all 1, or of all 1 ahead of all 0, the word is alone with its lead
    return 1 < pairs_won(letters) < zeros * ones - 1
