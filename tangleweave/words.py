"""Names, paths, short names, arguments: which rows are one."""

from tangleweave.signs import BLANK, DASH, codes, is_capital_letter, is_digit, is_sign, is_small_letter, split_at

LONGEST_NAME = 30
LONGEST_PATH = 40
LONGEST_SHORT_NAME = 12
LONGEST_ARGUMENT = 40


def is_small_letter_or_digit(byte):
    return is_small_letter(byte) or is_digit(byte)


def is_word(row):
    return len(row) > 0 and all([is_small_letter_or_digit(byte) or byte == DASH for byte in row])


def is_name(row):
    return len(row) <= LONGEST_NAME and all([is_word(word) for word in split_at(row, BLANK)])


def is_path_sign(byte):
    return is_small_letter_or_digit(byte) or is_capital_letter(byte) or byte in codes("._/-")


def is_path(row):
    return 1 <= len(row) <= LONGEST_PATH and all([is_path_sign(byte) for byte in row])


def is_short_name(row):
    if not 1 <= len(row) <= LONGEST_SHORT_NAME:
        return False
    return is_small_letter(row[0]) and all([is_small_letter_or_digit(byte) for byte in row])


def is_argument_sign(byte):
    return is_sign(byte) and byte not in codes(",(){}@")


def is_argument(row):
    if len(row) > LONGEST_ARGUMENT or not all([is_argument_sign(byte) for byte in row]):
        return False
    return row[:1] != (BLANK,) and row[-1:] != (BLANK,)
