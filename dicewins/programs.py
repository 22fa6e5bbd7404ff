"""Programs: the greatest sum of fractions of at least 0 within bounds, with weights that show it."""

from dicewins.errors import OtherSize
from dicewins.fractions_of import lowest
from dicewins.linear import checked_row, checked_rows


class Outcome:
    """What came out of a program."""

    def __init__(self, word, total, unknowns, weights):
        self.word = word
        self.total = total
        self.unknowns = unknowns
        self.weights = weights


class Tableau:
    """A program on its way to a solution, as lines of integers over one divisor of at least 1.

    Line 0 is what is to grow, the lines behind it have one row of the program each. A line has one entry
    for each free quantity, then its right side: the bound, and behind it one entry for each row. These
    last entries raise the bound of each row by an amount that is far smaller than that of the row before.
    They decide where two bounds are reached at once, so each exchange leads on and none comes twice.
    """

    def __init__(self, lines, divisor, free, held):
        self.lines = lines
        self.divisor = divisor
        self.free = free
        self.held = held

    def right_side(self, number):
        """The right side of the line."""
        return self.lines[number][len(self.free):]

    def exchange(self, number, column):
        """Hold the free quantity of the column on the line, and free the one held there."""
        pivot = self.lines[number]
        worth = pivot[column]
        sign = 1 if worth > 0 else -1
        old = sign * self.divisor
        after = []
        for place, line in enumerate(self.lines):
            part = line[column]
            if place == number:
                changed = [sign * entry for entry in line]
                changed[column] = old
            else:
                changed = [(entry * worth - part * other) // old for entry, other in zip(line, pivot)]
                changed[column] = -sign * part
            after.append(changed)
        self.lines = after
        self.divisor = sign * worth
        self.free[column], self.held[number - 1] = self.held[number - 1], self.free[column]

    def tightest(self, column):
        """The line that bounds the quantity of the column first, None if no line bounds it."""
        best = None
        for number in range(1, len(self.held) + 1):
            if self.lines[number][column] > 0 and (best is None or self.is_tighter(number, best, column)):
                best = number
        return best

    def is_tighter(self, number, other, column):
        """True if the one line bounds the quantity of the column more than the other line does."""
        here = self.lines[number][column]
        there = self.lines[other][column]
        return is_below(self.right_side(number), there, self.right_side(other), here)

    def grows_less(self, step, other):
        """True if line 0 grows less by the exchange of the one line and column than by that of the other."""
        here = -self.lines[0][step[1]] * self.lines[other[0]][other[1]]
        there = -self.lines[0][other[1]] * self.lines[step[0]][step[1]]
        return is_below(self.right_side(step[0]), here, self.right_side(other[0]), there)

    def best_step(self):
        """The line and the column of the exchange by which line 0 grows most.

        None if line 0 can not grow, and no line if it grows without end.
        """
        best = None
        for column in range(len(self.free)):
            if self.lines[0][column] < 0:
                step = (self.tightest(column), column)
                if step[0] is None:
                    return step
                if best is None or self.grows_less(best, step):
                    best = step
        return best

    def climb(self):
        """Exchange until line 0 can not grow any more: True then, False if it grows without end."""
        step = self.best_step()
        while step is not None:
            if step[0] is None:
                return False
            self.exchange(step[0], step[1])
            step = self.best_step()
        return True

    def weights_for(self, unknowns, many):
        """The weights of the rows at the end of a climb."""
        found = [(0, 1)] * many
        for column, quantity in enumerate(self.free):
            if unknowns <= quantity < unknowns + many:
                found[quantity - unknowns] = lowest(self.lines[0][column], self.divisor)
        return tuple(found)

    def worths_for(self, unknowns):
        """The worths of the unknowns at the end of a climb."""
        found = [(0, 1)] * unknowns
        for number, quantity in enumerate(self.held):
            if quantity < unknowns:
                found[quantity] = lowest(self.right_side(number + 1)[0], self.divisor)
        return tuple(found)


def is_below(first, times, second, others):
    """True if the first row times a factor is below the second row times another, where they first differ."""
    for entry, other in zip(first, second):
        if entry * times != other * others:
            return entry * times < other * others
    return False


def ranked_bounds(bounds):
    """The right sides of the rows of a program."""
    many = len(bounds)
    return [[bound] + [1 if place == number else 0 for place in range(many)] for number, bound in enumerate(bounds)]


def fitting_start(rows, bounds, aims):
    """The tableau that begins with all unknowns at 0, which fits if no bound is below 0."""
    lines = [[-aim for aim in aims] + [0] * (len(bounds) + 1)]
    for row, right in zip(rows, ranked_bounds(bounds)):
        lines.append(list(row) + right)
    return Tableau(lines, 1, list(range(len(aims))), list(range(len(aims), len(aims) + len(bounds))))


def helped_start(rows, bounds, aims):
    """A tableau whose line 0 is the helper, a quantity that is taken off each row, below 0.

    The line of the aims stands behind the rows, where it only follows the exchanges.
    """
    many = len(aims)
    empty = [0] * (len(bounds) + 1)
    lines = [[0] * many + [1] + empty]
    for row, right in zip(rows, ranked_bounds(bounds)):
        lines.append(list(row) + [-1] + right)
    lines.append([-aim for aim in aims] + [0] + empty)
    helper = many + len(bounds)
    tableau = Tableau(lines, 1, list(range(many)) + [helper], list(range(many, helper)))
    # the helper at once takes up what the least bound lacks; the last one of equal bounds is raised least
    least = min(bounds)
    lacking = [number for number, bound in enumerate(bounds) if bound == least]
    tableau.exchange(lacking[-1] + 1, many)
    return tableau


def without_helper(tableau, helper):
    """The tableau of the program itself, where the helper is free."""
    column = tableau.free.index(helper)
    lines = [tableau.lines[-1]] + tableau.lines[1:-1]
    left = [line[:column] + line[column + 1:] for line in lines]
    free = tableau.free[:column] + tableau.free[column + 1:]
    return Tableau(left, tableau.divisor, free, tableau.held)


def greatest_sum(aims, rows, bounds):
    """The Outcome of the program."""
    goal = checked_row(aims)
    checked = checked_rows(rows)
    limits = checked_row(bounds)
    if checked and len(goal) != len(checked[0]):
        raise OtherSize(len(goal), len(checked[0]))
    if len(checked) != len(limits):
        raise OtherSize(len(checked), len(limits))
    helper = len(goal) + len(limits)
    if limits and min(limits) < 0:
        tableau = helped_start(checked, limits, goal)
        tableau.climb()
        if helper in tableau.held:
            return Outcome("none", None, None, tableau.weights_for(len(goal), len(limits)))
        tableau = without_helper(tableau, helper)
    else:
        tableau = fitting_start(checked, limits, goal)
    if not tableau.climb():
        return Outcome("open", None, None, None)
    total = lowest(tableau.right_side(0)[0], tableau.divisor)
    return Outcome("reached", total, tableau.worths_for(len(goal)), tableau.weights_for(len(goal), len(limits)))
