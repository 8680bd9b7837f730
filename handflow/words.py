"""The words of a row: names, numbers, signs and values."""

KEYWORDS = ("ask", "store", "put", "get", "give", "if", "else", "while", "repeat", "end")
SIGNS = ("+", "-", "*", "/", "<", "=", "&", "|", "^")
# Written out, since isalpha and isdigit also let other alphabets by.
LETTERS = "abcdefghijklmnopqrstuvwxyz"
FIGURES = "0123456789"
MOST_LETTERS = 8
MOST_FIGURES = 30


def is_name(word):
    if not 1 <= len(word) <= MOST_LETTERS:
        return False
    return word not in KEYWORDS and is_made_of(word, LETTERS)


def number_in(word):
    if not 1 <= len(word) <= MOST_FIGURES:
        return None
    if not is_made_of(word, FIGURES):
        return None
    if word[0] == "0" and word != "0":
        return None
    return int(word)


def value_in(word):
    return word if is_name(word) else number_in(word)


def is_made_of(word, signs):
    return all([sign in signs for sign in word])
