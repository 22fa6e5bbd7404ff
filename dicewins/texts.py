"""Cups written as texts, and read from them."""

from dicewins.cups import Cup
from dicewins.dice import die_of
from dicewins.errors import BadDie, BadText


def cup_text(cup):
    """The text of the cup."""
    dice = Cup.checked(cup)
    lines = [f"cup {len(dice)} {len(dice[0])}\n"]
    for die in dice:
        lines.append(" ".join([str(entry) for entry in die]) + "\n")
    return "".join(lines)


def is_plain_number(part):
    """True if the part is an integer of at least 0 as texts have it."""
    # isdigit alone takes digits of other scripts, too
    if not part.isascii() or not part.isdigit():
        return False
    return part == "0" or not part.startswith("0")


def ended_line(lines, number):
    """The line, if it is there and a line feed ends it; what the text is split to has one part more than lines."""
    if number >= len(lines) - 1:
        raise BadText(number)
    return lines[number]


def sizes_in(line):
    """The numbers of dice and of ranks that line 0 tells."""
    parts = line.split(" ")
    if len(parts) != 3 or parts[0] != "cup":
        raise BadText(0)
    for part in parts[1:]:
        if not is_plain_number(part) or part == "0":
            raise BadText(0)
    return int(parts[1]), int(parts[2])


def die_in(line, number, ranks):
    """The die that the line of this number tells."""
    parts = line.split(" ")
    if len(parts) != ranks:
        raise BadText(number)
    for part in parts:
        if not is_plain_number(part):
            raise BadText(number)
    entries = [int(part) for part in parts]
    try:
        return die_of(entries)
    except BadDie as why:
        raise BadText(number) from why


def cup_from(text):
    """The Cup whose text this is."""
    if not isinstance(text, str):
        raise BadText(-1)
    lines = text.split("\n")
    many, ranks = sizes_in(ended_line(lines, 0))
    dice = []
    for number in range(1, many + 1):
        dice.append(die_in(ended_line(lines, number), number, ranks))
    if len(lines) != many + 2 or lines[-1] != "":
        raise BadText(many + 1)
    return Cup(dice)
