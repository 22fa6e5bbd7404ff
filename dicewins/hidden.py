"""One unseen die that is told of by and by."""

from dicewins.amounts import check_int, is_int
from dicewins.dice import die_of, one_faced
from dicewins.errors import BadNumber, OtherSize
from dicewins.fractions_of import lowest
from dicewins.ranges import fitting_die, span_for
from dicewins.telling import rows_of


class Hidden:
    """An unseen die, and the leads over tests that it has been told to have."""

    def __init__(self, ranks, number):
        self.ranks = check_int(ranks, "ranks", 1)
        self.number = check_int(number, "number", 1)
        self.rows = ()
        self.told = ()

    @property
    def asked(self):
        """How many tellings have been accepted."""
        return len(self.rows)

    def row_for(self, die):
        """The test row of a die on the ranks of the hidden one."""
        entries = die_of(die)
        if len(entries) != self.ranks:
            raise OtherSize(self.ranks, len(entries))
        return rows_of([entries])[0]

    def tell(self, test, lead):
        """Nothing; the hidden die has this lead over the test from now on."""
        entries = die_of(test)
        if not is_int(lead):
            raise BadNumber("lead")
        rows = self.rows + (self.row_for(entries),)
        told = self.told + (lowest(lead, self.number),)
        if fitting_die(rows, told, self.ranks) is None:
            raise BadNumber("lead")
        self.rows = rows
        self.told = told

    def lead_on(self, die):
        """The Span over the die for all leads by face told so far."""
        return span_for(self.rows, self.told, self.row_for(die))

    def settled(self):
        """True if just one row of shares has all leads by face told so far."""
        for rank in range(self.ranks):
            span = self.lead_on(one_faced(self.ranks, rank, 1))
            if span.low != span.high:
                return False
        return True

    def found_die(self):
        """The die with the one row of shares, None if the die is not settled or its entries are no integers."""
        if not self.settled():
            return None
        shares = fitting_die(self.rows, self.told, self.ranks)
        count = sum(shares)
        if any([entry * self.number % count for entry in shares]):
            return None
        return tuple([entry * self.number // count for entry in shares])
