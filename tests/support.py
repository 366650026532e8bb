"""What several tests share: how calls end, all values and all models, and the promises worked out plainly."""

import copy
import itertools

from castforms.models import common, converted, limits, promoted, width

LP32 = ((8, 16, 16, 32, 64), "s")
KINDS = ["char", "schar", "uchar", "short", "ushort", "int", "uint", "long", "ulong", "wide", "uwide"]
SUFFIX_KINDS = {
    "": ["int", "long", "wide"], "l": ["long", "wide"], "w": ["wide"],
    "u": ["uint", "ulong", "uwide"], "ul": ["ulong", "uwide"], "uw": ["uwide"],
}
CONDITIONS = ["less", "most", "not", "and", "or"]
# The parts of each word that is no leaf: expressions ("E") and conditions ("C").
FORMS = {
    "cast": "E", "neg": "E", "shl": "E", "shr": "E", "add": "EE", "sub": "EE", "mul": "EE", "if": "CEE",
    "less": "EE", "most": "EE", "not": "C", "and": "CC", "or": "CC",
}
LEAST_NODES = {"E": 1, "C": 3}
# Calls of functions with the arguments model, variables and expression that return, and such that raise.
CASES = [
    (LP32, [("x", "ushort", 0, 60000), ("y", "long", -9, 9)], ("add", ("var", "x"), ("var", "y"))),
    (LP32, [("x", "ushort", 0, 60000), ("y", "long", -9, 9)], ("mul", ("var", "x"), ("var", "y"))),
    (LP32, [("x", "ushort", 0, 60000), ("y", "long", -9, 9)], ("less", ("var", "x"), ("var", "y"))),
    (((8, 16, 16, 32), "s"), [("x", "int", 0, 1)], ("var", "x")),
    (((8, 16, 16, 32, 64), "x"), [("x", "int", 0, 1)], ("var", "x")),
    (LP32, [("x", "int", 0, 1), ("x", "int", 0, 1)], ("var", "x")),
    (LP32, [("x", "int", 0, 1)], ("add", ("var", "x"), ("neg", ("var", "x")))),
    (LP32, [("x", "int", 0, 1), ("z", "char", 0, 1000)], ("var", "x")),
    (LP32, [("x", "int", 0, 1)], ("add", ("var", "x"), ("lit", 10 ** 40, "uw"))),
]


def raised(function, *arguments, **named):
    """The class and the value of the error that a call raises, None if it raises none."""
    try:
        function(*arguments, **named)
    except ValueError as error:
        return type(error), error.value
    return None


def untouched(function, *arguments):
    """Whether a call leaves its arguments as they were, whether it raises or not."""
    before = copy.deepcopy(arguments)
    try:
        function(*arguments)
    except ValueError:
        pass
    return before == arguments


def all_values(variables):
    """All values of the variables, one dict each."""
    names = [row[0] for row in variables]
    ranges = [range(row[2], row[3] + 1) for row in variables]
    return [dict(zip(names, chosen)) for chosen in itertools.product(*ranges)]


def all_models(least, most):
    """All models whose widths are at least those of a tuple and at most a number, in the order of promise 4."""
    found = []
    for widths in itertools.product(*[range(low, most + 1) for low in least]):
        if all(widths[at] <= widths[at + 1] for at in range(4)):
            found.extend([(widths, "s"), (widths, "u")])
    return found


def parts_of(node):
    return [item for item in node[1:] if isinstance(item, tuple)]


def node_at(expression, path):
    for number in path:
        expression = parts_of(expression)[number]
    return expression


def is_admitted(model, variables, expression):
    """Promise 7: whether a model admits variables and an expression."""
    for _, kind, low, high in variables:
        least, greatest = limits(model, kind)
        if low < least or high > greatest:
            return False
    return literals_have_types(model, expression)


def literals_have_types(model, node):
    if node[0] == "lit":
        return any(node[1] <= limits(model, kind)[1] for kind in SUFFIX_KINDS[node[2]])
    return all(literals_have_types(model, part) for part in parts_of(node))


def kind_by_promise(model, variables, node):
    """Promise 7: the type of a node; for `less` and `most` the type in which they compare."""
    word, kinds = node[0], [kind_by_promise(model, variables, part) for part in parts_of(node)]
    if word == "var":
        return next(row[1] for row in variables if row[0] == node[1])
    if word == "lit":
        return next(kind for kind in SUFFIX_KINDS[node[2]] if node[1] <= limits(model, kind)[1])
    if word == "cast":
        return node[1]
    if word in ("neg", "shl", "shr"):
        return promoted(model, kinds[0])
    if word in ("not", "and", "or"):
        return None
    return common(model, kinds[-2], kinds[-1])


def operated(node, parts):
    """Promise 9: the mathematical value of a node that is no variable, from those of its parts."""
    return {
        "lit": lambda: node[1], "cast": lambda: parts[0], "neg": lambda: 0 - parts[0],
        "add": lambda: parts[0] + parts[1], "sub": lambda: parts[0] - parts[1], "mul": lambda: parts[0] * parts[1],
        "shl": lambda: parts[0] * 2 ** node[2], "shr": lambda: parts[0] // 2 ** node[2],
        "if": lambda: parts[1] if parts[0] else parts[2],
        "less": lambda: parts[0] < parts[1], "most": lambda: parts[0] <= parts[1],
        "not": lambda: not parts[0], "and": lambda: parts[0] and parts[1], "or": lambda: parts[0] or parts[1],
    }[node[0]]()


def exact_by_promise(node, values):
    """Promise 9: the mathematical value of a node."""
    if node[0] == "var":
        return values[node[1]]
    return operated(node, [exact_by_promise(part, values) for part in parts_of(node)])


class Stop(Exception):
    """The end of a run with a fault."""


class RunByPromise:
    """Promise 8: `taken` has the steps of a run, `answer` what it comes to."""

    def __init__(self, model, variables, expression, values):
        self.model, self.variables, self.values, self.taken = model, variables, values, []
        try:
            self.answer = ("value", self.value((), expression))
        except Stop as fault:
            self.answer = fault.args[0]

    def value(self, path, node):
        word = node[0]

        def part(number):
            return self.value(path + (number,), parts_of(node)[number])

        if word in ("var", "lit"):
            return exact_by_promise(node, self.values)
        if word == "not":
            return not part(0)
        if word == "and":
            return part(0) and part(1)
        if word == "or":
            return part(0) or part(1)
        kind = kind_by_promise(self.model, self.variables, node)
        if word == "if":
            return self.step(path, "first", kind, part(1)) if part(0) else self.step(path, "second", kind, part(2))
        values = [part(number) for number in range(len(parts_of(node)))]
        if len(values) == 2:
            values = [self.step(path, "first", kind, values[0]), self.step(path, "second", kind, values[1])]
        number = operated(node, values)
        if word in ("less", "most"):
            return number
        self.stop_at_faults(path, node, kind, values, number)
        return self.step(path, "result", kind, number)

    def stop_at_faults(self, path, node, kind, values, number):
        fault = None
        low, high = limits(self.model, kind)
        if node[0] in ("shl", "shr") and node[2] >= width(self.model, kind) or node[0] == "shl" and values[0] < 0:
            fault = "shift"
        elif node[0] != "cast" and low < 0 and not low <= number <= high:
            fault = "overflow"
        if fault is not None:
            self.taken.append((path, "result", None))
            raise Stop(("fault", fault, path))

    def step(self, path, word, kind, number):
        self.taken.append((path, word, converted(self.model, kind, number)))
        return self.taken[-1][2]


def steps_in_order(path, node):
    """Promise 9: all steps of an expression, those of the parts of a node ahead of its own."""
    found = []
    for number, part in enumerate(parts_of(node)):
        found.extend(steps_in_order(path + (number,), part))
    words = {"less": ["first", "second"], "most": ["first", "second"], "if": ["first", "second"]}
    for word in ("add", "sub", "mul"):
        words[word] = ["first", "second", "result"]
    for word in ("neg", "shl", "shr", "cast"):
        words[word] = ["result"]
    return found + [(path, word) for word in words.get(node[0], [])]


def is_step_clean(expression, values, step):
    """Promise 9: whether the step of a run is no fault, and its value the mathematical one."""
    path, word, number = step
    node = node_at(expression, path)
    if word != "result":
        # The converted parts stand last, also in an `if`.
        node = parts_of(node)[-2 if word == "first" else -1]
    return number is not None and number == exact_by_promise(node, values)


def unclean_steps(model, variables, expression):
    """All steps that are not clean for some values with which a run comes to them, in order."""
    found = set()
    for values in all_values(variables):
        for step in RunByPromise(model, variables, expression, values).taken:
            if not is_step_clean(expression, values, step):
                found.add(step[:2])
    return [step for step in steps_in_order((), expression) if step in found]


def random_tree(rng, names, many, form="E", numbers=(0, 1, 2, 3, 5, 7, 8, 12), counts=(0, 1, 1, 2, 3, 4)):
    """An expression ("E") or a condition ("C") of so many nodes; it takes the names that it uses out of the list.

    Its literals are of the numbers, its shift counts of the counts.
    """
    words = [word for word in FORMS if (word in CONDITIONS) == (form == "C") and least_nodes(word) <= many]
    if not words:
        if names and rng.random() < 0.75:
            return ("var", names.pop(rng.randrange(len(names))))
        return ("lit", rng.choice(numbers), rng.choice(list(SUFFIX_KINDS)))
    word = rng.choice(words)
    sizes = [LEAST_NODES[part_form] for part_form in FORMS[word]]
    for _ in range(many - least_nodes(word)):
        sizes[rng.randrange(len(sizes))] += 1
    parts = tuple(random_tree(rng, names, size, part, numbers, counts) for size, part in zip(sizes, FORMS[word]))
    if word == "cast":
        return (word, rng.choice(KINDS)) + parts
    if word in ("shl", "shr"):
        return (word,) + parts + (rng.choice(counts),)
    return (word,) + parts


def least_nodes(word):
    return 1 + sum(LEAST_NODES[form] for form in FORMS[word])


def random_variables(rng, many, kinds=tuple(KINDS), reach=4):
    """Variables with small ranges."""
    found = []
    for name in "abcdefgh"[:many]:
        low = rng.randrange(-reach, reach)
        found.append((name, rng.choice(kinds), low, low + rng.randrange(reach)))
    return found


def large_case(rng, form="E", many=24, literals=6, reach=10 ** 40, kinds=tuple(KINDS)):
    """Variables and an expression at the bounds of promise 2."""
    variables = []
    for name in "abcdefgh":
        low, high = sorted(rng.choice([-1, 1]) * rng.randrange(reach + 1) // 2 ** rng.randrange(130) for _ in "lh")
        variables.append((name, rng.choice(kinds), low, high))
    numbers = [0, reach] + [rng.randrange(reach + 1) // 2 ** rng.randrange(130) for _ in range(6)]
    while True:
        tree = random_tree(rng, list("abcdefgh"), many, form, numbers, (0, 1, 7, 30, 100, 127, 128, 200))
        if len([node for node in all_nodes(tree) if node[0] == "lit"]) <= literals:
            return variables, tree


def all_nodes(node):
    return [node] + [within for part in parts_of(node) for within in all_nodes(part)]
