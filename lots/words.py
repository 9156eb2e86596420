"""The words of the language: which text is a name, which a number, and which words a deed begins with."""

LETTERS = "abcdefghijklmnopqrstuvwxyz"
MOST_LETTERS = 8
FIGURES = "0123456789"
MOST_FIGURES = 9
RECKONING_SIGNS = ("+", "-", "*")
TEST_SIGNS = ("=", "<", "#")
# The deeds that have blocks.
BLOCK_KINDS = ("if", "while", "times", "hand")


def is_made_of(text, signs):
    # Asked sign by sign: Python's own isalpha and isdigit know letters and figures that are none here.
    return all([sign in signs for sign in text])


def is_name(text):
    return 1 <= len(text) <= MOST_LETTERS and is_made_of(text, LETTERS)


def is_number(text):
    if not 1 <= len(text) <= MOST_FIGURES or not is_made_of(text, FIGURES):
        return False
    return text[0] != "0" or text == "0"
