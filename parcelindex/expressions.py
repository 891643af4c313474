"""The expressions of markers: how they are read and written.

An expression is kept as a tuple of steps in the order in which they are worked out, so that nothing nests: first what
`not`, `and` and `or` stand over, then they themselves. A step is a tuple of a word, a sign and a worth; only
comparisons have the last two.
"""

from parcelindex.checks import DIGITS, LETTERS, number_in
from parcelindex.environments import HIGHEST
from parcelindex.names import is_word

# Those with two characters stand first, for others begin like them.
SIGNS = ("==", "!=", "<=", ">=", "<", ">", "(", ")")
LEVEL_SIGNS = ("==", "!=", "<", "<=", ">", ">=")
FIELDS = ("system", "machine", "level")
OPERANDS = ("always", "never", "system", "machine", "level")
# What binds more is worked out first; a closing parenthesis waits for all but the opening one.
BINDINGS = {"(": 0, ")": 1, "or": 1, "and": 2, "not": 3}
TIGHTEST = 4


def token_at(text, at):
    """The token that begins at a place of a text: letters and digits, or a sign; the empty text if there is none."""
    signs = LETTERS + DIGITS
    end = at
    while end < len(text) and text[end] in signs:
        end += 1
    if end > at:
        return text[at:end]
    for sign in SIGNS:
        if text[at:at + 2].startswith(sign):
            return sign
    return ""


def tokens_of(text):
    """The list of the tokens of a text; None if something else stands in it, or a space at one of its ends."""
    if text.startswith(" ") or text.endswith(" "):
        return None
    tokens = []
    at = 0
    while at < len(text):
        token = token_at(text, at)
        if token != "":
            tokens.append(token)
        elif text[at] != " ":
            return None
        at = at + max(1, len(token))
    return tokens


def comparison_of(tokens):
    """The step of a comparison with these tokens; None if they are none."""
    if len(tokens) != 3:
        return None
    word, sign, worth = tokens
    if word == "level":
        number = number_in(worth, HIGHEST)
        return (word, sign, number) if sign in LEVEL_SIGNS and number is not None else None
    return (word, sign, worth) if sign in ("==", "!=") and is_word(worth) else None


def terms_of(tokens):
    """The steps of the tokens, in their order, with one step for each comparison; None if a comparison is wrong."""
    terms = []
    at = 0
    while at < len(tokens):
        if tokens[at] in FIELDS:
            term = comparison_of(tokens[at:at + 3])
            if term is None:
                return None
            terms.append(term)
            at += 3
        else:
            terms.append((tokens[at], "", ""))
            at += 1
    return terms


def expression_of(terms):
    """The expression of terms in the order of a text; None if they are none."""
    steps = []
    held = []
    wanted = True
    for term in terms:
        word = term[0]
        if wanted and word in ("(", "not"):
            held.append(word)
        elif wanted and word in OPERANDS:
            steps.append(term)
            wanted = False
        elif not wanted and word in ("and", "or", ")"):
            while held and BINDINGS[held[-1]] >= BINDINGS[word]:
                steps.append((held.pop(), "", ""))
            if word != ")":
                held.append(word)
                wanted = True
            elif held:
                held.pop()
            else:
                return None
        else:
            return None
    if wanted or "(" in held:
        return None
    return tuple(steps + [(word, "", "") for word in reversed(held)])


def expression_in(thing):
    """The expression that is written in a text; None for every other object."""
    tokens = tokens_of(thing) if isinstance(thing, str) else None
    terms = None if tokens is None else terms_of(tokens)
    return None if terms is None else expression_of(terms)


def text_within(text, binding, least):
    """A text in parentheses, if it binds less than the place where it is put."""
    return f"({text})" if binding < least else text


def text_of_operand(word, sign, worth):
    """The text of a step that stands over nothing."""
    return f"{word} {sign} {worth}" if word in FIELDS else word


def text_of_expression(steps):
    """The text of an expression: one space between tokens, and no needless parentheses."""
    held = []
    for word, sign, worth in steps:
        binding = BINDINGS.get(word, TIGHTEST)
        if word == "not":
            text, inner = held.pop()
            held.append(("not " + text_within(text, inner, binding), binding))
        elif word == "and" or word == "or":
            last, last_binding = held.pop()
            first, first_binding = held.pop()
            before = text_within(first, first_binding, binding)
            behind = text_within(last, last_binding, binding)
            held.append((f"{before} {word} {behind}", binding))
        else:
            held.append((text_of_operand(word, sign, worth), binding))
    return held[0][0]
