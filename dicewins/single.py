"""Whether there is just one best mix."""

from dicewins.amounts import shortened
from dicewins.best import best_mix
from dicewins.linear import kernel_rows
from dicewins.planes import table_rank
from dicewins.sorting import summed_mix
from dicewins.tables import check_table, sub_table
from dicewins.weighing import Mix, worth_row


def is_only(rows, mix):
    """True if the best mix is the only one."""
    taken = mix.taken_dice()
    worths = worth_row(rows, mix.entries)
    if not all([worths[number] < 0 for number in range(len(rows)) if number not in taken]):
        return False
    return table_rank(sub_table(rows, taken)) == len(taken) - 1


def only_mix(table):
    """The one short best Mix, None if there are best mixes that are not like."""
    rows = check_table(table)
    mix = best_mix(rows)
    return mix if is_only(rows, mix) else None


def is_multiple(row, weights):
    """True if the row is a fraction multiple of the weights, the first of which is not 0."""
    return all([entry * weights[0] == row[0] * weight for entry, weight in zip(row, weights)])


def other_mix(rows, mix):
    """A short best Mix that is not like the mix, which is a full mix and not the only best one."""
    taken = mix.taken_dice()
    weights = [mix.entries[number] for number in taken]
    # the kernel has two rows at least, of which one at most is a multiple of the weights
    kernel = kernel_rows(sub_table(rows, taken), len(taken))
    others = [row for row in kernel if not is_multiple(row, weights)]
    more = [0] * len(rows)
    for number, entry in zip(taken, others[0]):
        more[number] = entry
    # so many times the mix that no weight falls below 0 and no other die begins to lead
    times = max([abs(entry) for entry in more + worth_row(rows, more)])
    return Mix(shortened([times * weight + entry for weight, entry in zip(mix.entries, more)]))


def two_mixes(table):
    """Two short best Mixes that are not like, None if there is just one best mix."""
    rows = check_table(table)
    mix = summed_mix(rows)
    return None if is_only(rows, mix) else (mix, other_mix(rows, mix))
