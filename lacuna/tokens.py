"""The tokens of texts (points 80 and 85)."""

from lacuna.terms import LETTERS, RESERVED

DIGITS = "0123456789"
SIGNS = "()[].,:;&|"
ARROW = "->"


def row_end(text, at, signs):
    """The index behind the row of these signs that begins at the index."""
    while at < len(text) and text[at] in signs:
        at += 1
    return at


def is_word(token):
    """Whether a token is a word."""
    return token != "" and token[0] in LETTERS


def is_number(token):
    """Whether a row of signs is a number."""
    return token == "0" or (token != "" and token[0] in DIGITS and token[0] != "0")


def is_free_word(token):
    """Whether a token is a word that is not reserved."""
    return is_word(token) and token not in RESERVED


def unit_end(text, at):
    """The index behind the token that begins at the index, or behind the signs there that are none."""
    if text[at] in LETTERS:
        return row_end(text, at, LETTERS)
    if text[at] in DIGITS:
        return row_end(text, at, DIGITS)
    return at + 2 if text[at:at + 2] == ARROW else at + 1


def is_token(unit):
    """Whether signs that were read as one are a token."""
    return is_word(unit) or is_number(unit) or unit == ARROW or unit in SIGNS


def tokens_of(text):
    """The list of the tokens of a text; a row of signs that is no token counts as one."""
    found = []
    # Whether signs that are no token stand directly ahead.
    is_row = False
    at = 0
    while at < len(text):
        if text[at] in " \n":
            is_row = False
            at += 1
            continue
        end = unit_end(text, at)
        unit = text[at:end]
        if is_token(unit):
            is_row = False
            found.append(unit)
        elif is_row:
            found[-1] = found[-1] + unit
        else:
            is_row = True
            found.append(unit)
        at = end
    return found


def spaced(tokens):
    """The text of the tokens."""
    pieces = []
    for at, token in enumerate(tokens):
        if at > 0 and token not in (")", "]", ",", ";", ".") and tokens[at - 1] not in ("(", "["):
            pieces.append(" ")
        pieces.append(token)
    return "".join(pieces)
