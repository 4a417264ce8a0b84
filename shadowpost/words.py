"""What writes a number, what writes a name, and the numbers that words write."""

FIGURES = "0123456789"
LETTERS = "abcdefghijklmnopqrstuvwxyz"
MOST_FIGURES = 10
MOST_LETTERS = 8


def is_made_of(word, signs, most):
    return 1 <= len(word) <= most and all([sign in signs for sign in word])


def is_number(word):
    figures = word[1:] if word.startswith("-") else word
    if not is_made_of(figures, FIGURES, MOST_FIGURES):
        return False
    # Among the words that begin with a nought, a `-` ahead of it or not, 0 alone is written so.
    return word == "0" or not figures.startswith("0")


def is_name(word):
    return is_made_of(word, LETTERS, MOST_LETTERS)


def numbers_of(words):
    if all([is_number(word) for word in words]):
        return [int(word) for word in words]
    return None
