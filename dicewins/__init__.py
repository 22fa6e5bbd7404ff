"""Dicewins: dice, who beats whom, and what a table of leads tells of its dice."""
