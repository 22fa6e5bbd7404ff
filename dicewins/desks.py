"""The desk: a cup that is kept through a sequence of deeds, which can be taken back."""

from dicewins.amounts import check_between
from dicewins.closed import closing_place
from dicewins.cups import Cup, stacked
from dicewins.dice import mixed_die
from dicewins.errors import BadKind, BadNumber, NothingBack
from dicewins.fewest import fewest_ranks
from dicewins.further import die_between
from dicewins.many import many_cup
from dicewins.orders import last_order, settled_count
from dicewins.single import only_mix
from dicewins.tables import table_of
from dicewins.throws import beats
from dicewins.weighing import check_lengths, mix_entries


def face_numbers(cup):
    """The numbers of faces of all dice."""
    return tuple([sum(die) for die in cup.dice])


def raised_die(die, rank):
    """The die with one face of the rank at the next higher one."""
    return die[:rank] + (die[rank] - 1, die[rank + 1] + 1) + die[rank + 2:]


class Desk:
    """A cup, and all cups that it was before the deeds that led to it."""

    def __init__(self, cup):
        self.kept = (Cup(cup),)

    @property
    def cup_now(self):
        """The Cup that the desk holds."""
        return self.kept[-1]

    @property
    def done(self):
        """The number of deeds done."""
        return len(self.kept) - 1

    @property
    def mark(self):
        """The number of deeds done, which can be assigned to take deeds back."""
        return self.done

    @mark.setter
    def mark(self, value):
        self.to_mark(value)

    def keep(self, cup):
        """Nothing; the desk holds the cup, and one more deed is done."""
        self.kept = self.kept + (cup,)

    def number_of(self, number, name):
        """The number, if it is that of a die of the cup."""
        return check_between(number, name, 0, len(self.cup_now) - 1)

    def put(self, die):
        """Put a die behind the others."""
        cup = self.cup_now.with_die(die)
        table = table_of(cup)
        news = {"dice": len(cup), "leads": table[-1][:-1], "ranks": fewest_ranks(table) - self.ranks_needed()}
        self.keep(cup)
        return news

    def drop(self, number):
        """Take out a die."""
        place = self.number_of(number, "number")
        dice = self.cup_now.dice
        # the last die can not go, as no cup is without a die
        self.keep(Cup(dice[:place] + dice[place + 1:]))
        return {"dice": len(dice) - 1}

    def raise_face(self, number, rank):
        """Move one face of a die up by one rank."""
        place = self.number_of(number, "number")
        dice = self.cup_now.dice
        check_between(rank, "rank", 0, len(dice[0]) - 2)
        if dice[place][rank] == 0:
            raise BadNumber("rank")
        self.keep(Cup(dice[:place] + (raised_die(dice[place], rank),) + dice[place + 1:]))
        leads = [die[rank] + die[rank + 1] if other != place else 0 for other, die in enumerate(dice)]
        return {"leads": tuple(leads)}

    def stack_on(self, cup):
        """Lay another cup on the cup."""
        made = stacked(self.cup_now, cup)
        self.keep(made)
        return {"ranks": made.ranks}

    def blend(self, weights):
        """Put the die of a mix of the dice behind them."""
        entries = mix_entries(weights)
        dice = self.cup_now.dice
        check_lengths(dice, entries)
        cup = self.cup_now.with_die(mixed_die(entries, *dice))
        self.keep(cup)
        return {"dice": len(cup), "leads": table_of(cup)[-1][:-1]}

    def throw_many(self, count):
        """Replace each die by its greatest of so many throws."""
        check_between(count, "count", 1, 6)
        cup = many_cup(self.cup_now, count)
        self.keep(cup)
        return {"faces": face_numbers(cup)}

    def scale(self, row):
        """Multiply each die by its own integer."""
        cup = self.cup_now.scaled(row)
        self.keep(cup)
        return {"faces": face_numbers(cup)}

    def turn_round(self):
        """Turn the cup."""
        self.keep(~self.cup_now)
        return {}

    def back(self):
        """The Cup that the desk holds with the last deed taken back."""
        if len(self.kept) == 1:
            raise NothingBack()
        self.kept = self.kept[:-1]
        return self.cup_now

    def to_mark(self, number):
        """The Cup that the desk holds with all deeds behind so many taken back."""
        check_between(number, "mark", 0, self.done)
        self.kept = self.kept[:number + 1]
        return self.cup_now

    def table_now(self):
        """The table of the cup."""
        return table_of(self.cup_now)

    def ranks_needed(self):
        """The fewest ranks of the table."""
        return fewest_ranks(self.table_now())

    def lone_mix(self):
        """The one short best Mix of the table, None if there are best mixes that are not like."""
        return only_mix(self.table_now())

    def ring_place(self, numbers):
        """The least closing turn along the closed row of dice, and the place where it closes."""
        return closing_place(self.cup_now, numbers)

    def third(self, first, second):
        """A further die that the second die beats and that beats the first one, None if there is none."""
        winner = self.number_of(first, "first")
        loser = self.number_of(second, "second")
        dice = self.cup_now.dice
        if not beats(dice[winner], dice[loser]):
            raise BadKind(loser)
        return die_between(dice, loser, winner)

    def settled_now(self):
        """The count from which the cup is settled, and its last order."""
        return settled_count(self.cup_now), last_order(self.cup_now)

    def find_order(self):
        """The numbers of all dice in a row in which no die loses to the next one."""
        table = self.table_now()
        row = []
        for number in range(len(table)):
            # the first die to which this one does not lose: the die ahead of that one beats this one
            places = [place for place, other in enumerate(row) if table[number][other] >= 0]
            place = places[0] if places else len(row)
            row = row[:place] + [number] + row[place:]
        return tuple(row)
