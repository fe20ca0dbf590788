"""The tokens of which texts of expressions and lines consist."""

from stillinstep.clipping import LIMIT

LETTERS = "abcdefghijklmnopqrstuvwxyz"
DIGITS = "0123456789"
WORD_SIGNS = "abcdefghijklmnopqrstuvwxyz0123456789_"
LONG_SIGNS = ("<=", ">=", "!=", ":=")
SHORT_SIGNS = ("+", "-", "*", "(", ")", "[", "]", ",", "<", ">", "=", ";")
# No name and no array is called so.
SPECIAL_WORDS = ("div", "mod", "min", "max", "pick", "nth", "when")
LONGEST_WORD = 12


def tokens_of(text):
    """The list of the tokens of a text without newlines, or None if it has others."""
    tokens = []
    at = 0
    while at < len(text):
        if text[at] == " ":
            at += 1
        else:
            token = _token_at(text, at)
            if token is None:
                return None
            tokens.append(token)
            at += len(token)
    return tokens


def split_at(tokens, sign):
    """The lists of tokens before, between and behind the tokens that are the sign."""
    pieces = [[]]
    for token in tokens:
        if token == sign:
            pieces.append([])
        else:
            pieces[-1].append(token)
    return pieces


def is_number(token):
    """Whether a token is a number."""
    return token[0] in DIGITS


def is_word(token):
    """Whether a token is a word."""
    return token[0] in LETTERS


def is_plain_word(token):
    """Whether a token is a word that may be that of a name or an array."""
    return is_word(token) and token not in SPECIAL_WORDS


def is_number_run(run):
    """Whether a text is a number up to the limit, written without leading zeros."""
    # The length is asked first: Python refuses to read very long numbers.
    if run == "" or len(run) > len(str(LIMIT)) or not all([sign in DIGITS for sign in run]):
        return False
    return run == "0" or (run[0] != "0" and int(run) <= LIMIT)


def _token_at(text, at):
    if text[at] in WORD_SIGNS:
        run = _run_at(text, at)
        return run if _is_good_run(run) else None
    if text[at:at + 2] in LONG_SIGNS:
        return text[at:at + 2]
    return text[at] if text[at] in SHORT_SIGNS else None


def _run_at(text, at):
    end = at
    while end < len(text) and text[end] in WORD_SIGNS:
        end += 1
    return text[at:end]


def _is_good_run(run):
    if run[0] in LETTERS:
        return len(run) <= LONGEST_WORD
    return is_number_run(run)
