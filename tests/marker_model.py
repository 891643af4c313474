"""A second way to tell what markers mean: Python's own `not`, `and` and `or` over their comparisons."""

import ast
import itertools
import re

WORD = "[a-z]{1,12}"
COMPARISON = f" *(?:(system|machine) *(==|!=) *({WORD})|(level) *(==|!=|<=|>=|<|>) *(0|[1-9][0-9]?))(?![a-z0-9])"
OTHER = " *(?:(always|never|not|and|or)(?![a-z0-9])|([()]))"
LETTERS = "abcdefghijklmnopqrstuvwxyz"
# Objects that are no strings, no integers and nothing of the package.
NODES = (ast.Expression, ast.BoolOp, ast.And, ast.Or, ast.UnaryOp, ast.Not, ast.Name, ast.Load)


def read(text):
    """The tree of a marker text and its comparisons; None for a wrong text."""
    if text != text.strip() or not text.isascii():
        return None
    at, words, told, glued = 0, [], {}, False
    while at < len(text):
        found = re.compile(COMPARISON).match(text, at) or re.compile(OTHER).match(text, at)
        if not found or glued and text[at] in LETTERS + "0123456789":
            return None
        parts = [part for part in found.groups() if part is not None]
        if len(parts) == 3:
            words.append(f"c{len(told)}")
            told[words[-1]] = parts
        elif parts[0] in ("always", "never"):
            words.append(f"c{len(told)}")
            told[words[-1]] = parts
        else:
            words.append(parts[0])
        at = found.end()
        glued = text[at - 1] not in "()"
    return tree_of(" ".join(words), told)


def tree_of(source, told):
    try:
        tree = ast.parse(source, mode="eval")
    except SyntaxError:
        return None
    if not all(isinstance(node, NODES) for node in ast.walk(tree)):
        return None
    return tree.body, told


def text_of(text):
    """The normal text of a right marker text."""
    tree, told = read(text)
    return written(tree, told)


def written(node, told):
    if isinstance(node, ast.Name):
        return " ".join(told[node.id])
    if isinstance(node, ast.UnaryOp):
        inner = written(node.operand, told)
        return f"not ({inner})" if isinstance(node.operand, ast.BoolOp) else f"not {inner}"
    sides = [written(side, told) for side in node.values]
    if isinstance(node.op, ast.Or):
        return " or ".join(sides)
    low = [isinstance(side, ast.BoolOp) and isinstance(side.op, ast.Or) for side in node.values]
    return " and ".join(f"({side})" if is_low else side for side, is_low in zip(sides, low))


def asker(text):
    """A function that tells for (system, machine, level) whether the marker with this text holds."""
    tree, told = read(text)
    rows = {}
    for name, parts in told.items():
        if len(parts) == 1:
            rows[name] = "True" if parts[0] == "always" else "False"
        else:
            worth = parts[2] if parts[0] == "level" else repr(parts[2])
            rows[name] = f"({parts[0]} {parts[1]} {worth})"
    source = re.sub("c[0-9]+", lambda found: rows[found.group()], ast.unparse(tree))
    return eval(f"lambda system, machine, level: {source}", {})


def key_of(place):
    """Environments are ordered as these tuples are."""
    system, machine, level = place
    return len(system), system, len(machine), machine, level


def places(words):
    """All environments with these words, the first letters, and every level, ascending."""
    row = sorted(set(words) | set(LETTERS[:len(set(words)) + 1]), key=lambda word: (len(word), word))
    return list(itertools.product(row, row, range(100)))


def mentioned(text):
    """The words that a marker compares."""
    return [found[1] for found in re.findall(f"(==|!=) *({WORD})", text)]
