"""Variables, expressions and conditions: their form, nodes and types, and which models admit them.

The functions of the interface, at the end, check their arguments. Those
between the checks and them do not: they are for callers that have checked
before. Rows are the nodes of an expression as `rows_of` lists them.
"""

from castforms.errors import InvalidExpression, InvalidVariables, NotAdmitted
from castforms.models import INT_RANK, KINDS, RANKS, SIGNED, UNSIGNED
from castforms.models import check_model, common_kind, is_held, promoted_kind

LETTERS = "abcdefghijklmnopqrstuvwxyz"
LONGEST_NAME = 8
RESERVED = ("not", "and", "or", "cast", "neg", "none")
SUFFIXES = ("", "u", "l", "ul", "w", "uw")
# What stands behind each word. An "expression" and a "condition" are parts, the other items are not.
ITEMS = {
    "var": ("name",),
    "lit": ("number", "suffix"),
    "cast": ("kind", "expression"),
    "neg": ("expression",),
    "add": ("expression", "expression"),
    "sub": ("expression", "expression"),
    "mul": ("expression", "expression"),
    "shl": ("expression", "number"),
    "shr": ("expression", "number"),
    "if": ("condition", "expression", "expression"),
    "less": ("expression", "expression"),
    "most": ("expression", "expression"),
    "not": ("condition",),
    "and": ("condition", "condition"),
    "or": ("condition", "condition"),
}
CONDITIONS = ("less", "most", "not", "and", "or")
PART_FORMS = ("expression", "condition")


def check_variables(variables):
    """Variables check."""
    seen = {}
    for at, (name, kind, low, high) in enumerate(variables):
        if not is_name(name) or name in seen or kind not in KINDS or low > high:
            raise InvalidVariables(at)
        seen[name] = True


def is_name(text):
    """Whether a variable may have this name."""
    if text in KINDS or text in RESERVED or not 1 <= len(text) <= LONGEST_NAME:
        return False
    return all([sign in LETTERS for sign in text])


def check_expression(variables, expression):
    """Expression check, also of a condition in place of the expression."""
    unused = {row[0]: True for row in variables}
    _check_node((), expression, None, unused)


def _check_node(path, node, needed, unused):
    """Checks a node, then its parts, and takes the names that occur out of the unused ones."""
    if not _has_form(node, needed) or not _has_items(node, unused):
        raise InvalidExpression(path)
    if node[0] == "var":
        del unused[node[1]]
    places = [form for form in ITEMS[node[0]] if form in PART_FORMS]
    for at, (part, place) in enumerate(zip(parts(node), places)):
        _check_node(path + (at,), part, place, unused)


def _has_form(node, needed):
    """Whether a node has a word, is what is needed, and has as many items as its word asks for."""
    if not isinstance(node, tuple) or not node or node[0] not in ITEMS:
        return False
    form = "condition" if node[0] in CONDITIONS else "expression"
    return needed in (None, form) and len(node) == len(ITEMS[node[0]]) + 1


def _has_items(node, unused):
    return all([_fits(form, item, unused) for form, item in zip(ITEMS[node[0]], node[1:])])


def _fits(form, item, unused):
    if form == "name":
        return item in unused
    if form == "number":
        return isinstance(item, int) and item >= 0
    if form == "suffix":
        return item in SUFFIXES
    if form == "kind":
        return item in KINDS
    # A part is checked when its turn comes, since its node stands ahead of it.
    return True


def parts(node):
    """The list of the parts of a node that are nodes themselves, in order."""
    return [item for form, item in zip(ITEMS[node[0]], node[1:]) if form in PART_FORMS]


def all_nodes(expression, path=()):
    """The list of the tuples (path, node), in order; `path` is that of the expression."""
    found = [(path, expression)]
    for at, part in enumerate(parts(expression)):
        found.extend(all_nodes(part, path + (at,)))
    return found


def literal_start(suffix):
    """The least rank that a literal with a suffix can have."""
    if "w" in suffix:
        return RANKS["wide"]
    if "l" in suffix:
        return RANKS["long"]
    return INT_RANK


def literal_kind(model, number, suffix):
    """The type of a literal, None if no type holds it."""
    kinds = UNSIGNED if "u" in suffix else SIGNED
    for kind in kinds[literal_start(suffix):]:
        if is_held(model, kind, number):
            return kind
    return None


def rows_of(expression):
    """The list of tuples (path, node, places), each node behind its parts: places are theirs in this list."""
    rows = []
    _add_rows(rows, (), expression)
    return rows


def _add_rows(rows, path, node):
    """Adds the rows of a node and of all nodes within; returns the place of its own."""
    places = []
    for at, part in enumerate(parts(node)):
        places.append(_add_rows(rows, path + (at,), part))
    rows.append((path, node, places))
    return len(rows) - 1


def kinds_by_name(variables):
    """A dict from the names of variables to their types."""
    return {row[0]: row[1] for row in variables}


def kinds_of(model, named, rows):
    """The list of the types in which the nodes of rows compute; `named` is a dict from names to types."""
    kinds = []
    for _, node, places in rows:
        kinds.append(own_kind(model, named, node, [kinds[at] for at in places]))
    return kinds


def own_kind(model, named, node, of_parts):
    """The type in which a node computes, from those of its parts.

    That of `less` and `most` is the one in which they compare; `not`, `and` and `or` have None.
    """
    word = node[0]
    if word == "var":
        return named[node[1]]
    if word == "lit":
        return literal_kind(model, node[1], node[2])
    if word == "cast":
        return node[1]
    if word in ("neg", "shl", "shr"):
        return promoted_kind(model, of_parts[0])
    if word in ("not", "and", "or"):
        return None
    # The two expressions stand last, also in an `if`.
    return common_kind(model, of_parts[-2], of_parts[-1])


def refusal(model, variables, expression):
    """The reason why a model does not admit variables and an expression, None if it does."""
    for name, kind, low, high in variables:
        if not is_held(model, kind, low) or not is_held(model, kind, high):
            return ("variable", name)
    for path, node in all_nodes(expression):
        if node[0] == "lit" and literal_kind(model, node[1], node[2]) is None:
            return ("literal", path)
    return None


def check_admission(model, variables, expression):
    """Admission check."""
    reason = refusal(model, variables, expression)
    if reason is not None:
        raise NotAdmitted(reason)


def nodes(variables, expression):
    """Yields (path, node) for all nodes, in order."""
    check_variables(variables)
    check_expression(variables, expression)
    yield from all_nodes(expression)


def admission(model, variables, expression):
    """The reason why a model does not admit variables and an expression, None if it does."""
    check_model(model)
    check_variables(variables)
    check_expression(variables, expression)
    return refusal(model, variables, expression)


def type_of(model, variables, expression):
    """The type of an expression, None for a condition."""
    check_model(model)
    check_variables(variables)
    check_expression(variables, expression)
    check_admission(model, variables, expression)
    if expression[0] in CONDITIONS:
        return None
    return kinds_of(model, kinds_by_name(variables), rows_of(expression))[-1]
