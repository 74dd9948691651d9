"""The numbers that refused calls answer."""

WRONG_FORM = -1
NO_SUCH_PLACE = -2
NOT_THERE = -3
NOT_FITTING = -4
TAKEN = -5
NO_DOCUMENT = -6
