"""Short words for the parts of programs, programs that several tests use, and random programs."""

LARGEST = 10 ** 60 - 1
TRUE = ("value", 1)
FALSE = ("value", 0)

# Each fails with the reason under which it stands.
FAILING = {
    "name": ("name", "none"),
    "zero": ("divide", ("value", 1), ("value", 0)),
    "kind": ("add", ("value", "a"), ("value", 1)),
    "range": ("item", ("value", ()), ("value", 0)),
    "size": ("add", ("value", LARGEST), ("value", 1)),
}


def v(value):
    return ("value", value)


def n(name):
    return ("name", name)


def add(one, other):
    return ("add", one, other)


def let(name, expression):
    return ("let", name, expression)


def read(name, expression):
    return ("read", name, expression)


def write(key, value):
    return ("write", v(key), v(value))


def steps_program(count):
    """Return a program of so many steps, at least 2, that counts them in the variable i and under the key k."""
    turns, rest = divmod(count - 2, 2)
    loop = ("while", ("less", n("i"), v(turns)), (let("i", add(n("i"), v(1))),))
    return (let("i", v(0)), loop) + (("write", v("k"), n("i")),) * rest


ENDLESS = (let("i", v(0)), ("while", v(1), (let("i", add(n("i"), v(1))), ("write", v("k"), n("i")))))

SUM = (
    read("a", v("x")), read("b", v("y")), ("write", v("z"), add(n("a"), n("b"))), ("return", n("a")),
)
RAISE_ALL = (
    ("scan", "k", v("u"), (read("v", n("k")), ("write", n("k"), add(n("v"), v(1))))),
)

NAMES = ["a", "b", "c"]
KEYS = ["x", "y", "ua", "ub", "uc"]
WORDS = ["let", "let", "read", "read", "read", "write", "write", "write", "delete", "call", "call"]
WORDS_WITH_BLOCKS = ["if", "if", "each", "scan", "scan", "while", "try", "try"]


class Maker:
    """Makes random programs that are right, and states and arguments for them.

    Most of the variables a, b and c and of the values in states are integers, so that not too
    many of the runs are refused early.
    """

    def __init__(self, random):
        self.random = random
        self.left = 0
        self.procedures = {}

    def program(self, size):
        """Return a program of about so many statements."""
        self.left = size
        self.procedures = {}
        made = []
        while self.left > 0:
            if self.random.random() < 0.15:
                made.append(self.definition())
            else:
                made.append(self.statement(1))
        return tuple(made)

    def definition(self):
        self.left -= 1
        name = "p" + "abcdefghijklmnopqrstuvwxyz"[len(self.procedures)]
        parameters = tuple(self.random.sample(NAMES + ["k"], self.random.randrange(4)))
        missing = [name for name in NAMES if name not in parameters and self.random.random() < 0.9]
        block = tuple(let(name, v(self.random.randrange(4))) for name in missing) + self.block(2)
        self.procedures[name] = len(parameters)
        return ("define", name, parameters, block)

    def block(self, depth):
        made = []
        while self.left > 0 and len(made) < 5 and self.random.random() < 0.8:
            made.append(self.statement(depth))
        return tuple(made)

    def statement(self, depth):
        self.left -= 1
        words = WORDS
        if self.random.random() < 0.05:
            words = ["refuse", "return"]
        elif depth < 6 and self.random.random() < 0.5:
            words = WORDS_WITH_BLOCKS
        word = self.random.choice(words)
        if word == "call" and not self.procedures:
            word = "let"
        if word in WORDS_WITH_BLOCKS:
            return self.statement_with_blocks(word, depth)
        return self.plain_statement(word)

    def plain_statement(self, word):
        name = self.random.choice(NAMES)
        if word == "let":
            return ("let", name, self.expression(3))
        if word == "read":
            return ("read", name, self.key())
        if word == "write":
            return ("write", self.key(), self.expression(3))
        if word == "delete":
            return ("delete", self.key())
        if word == "call":
            called = self.random.choice(sorted(self.procedures))
            return ("call", name, called, tuple(self.expression(2) for turn in range(self.procedures[called])))
        return (word, self.expression(2))

    def statement_with_blocks(self, word, depth):
        name = self.random.choice(NAMES)
        if word == "if":
            return ("if", self.expression(2), self.block(depth + 1), self.block(depth + 1))
        if word == "each":
            return ("each", name, self.listing(), self.block(depth + 1))
        if word == "scan":
            return ("scan", "k", v(self.random.choice(["", "u", "u", "ua", "q"])), self.block(depth + 1))
        if word == "try":
            return ("try", self.block(depth + 1), self.block(depth + 1))
        if self.random.random() < 0.1:
            return ("while", self.expression(2), self.block(depth + 1))
        turn = let(name, ("subtract", n(name), v(1)))
        return ("while", ("less", v(0), n(name)), (turn,) + self.block(depth + 1))

    def key(self):
        chance = self.random.random()
        if chance < 0.04:
            return self.wild(2)
        return n("k") if chance < 0.15 else v(self.random.choice(KEYS))

    def listing(self):
        if self.random.random() < 0.05:
            return self.wild(2)
        return ("list",) + tuple(self.expression(1) for turn in range(self.random.randrange(4)))

    def expression(self, depth):
        """Return an expression that most often has an integer as its value."""
        if self.random.random() < 0.03:
            return self.wild(depth)
        if depth == 1 or self.random.random() < 0.4:
            return n(self.random.choice(NAMES)) if self.random.random() < 0.6 else v(self.random.randrange(-1, 4))
        word = self.random.choice(["add", "add", "subtract", "less", "equal", "size", "divide", "multiply"])
        if word == "size":
            return ("size", self.listing())
        return (word, self.expression(depth - 1), self.expression(depth - 1))

    def wild(self, depth):
        """Return an expression of any kind."""
        if depth == 1 or self.random.random() < 0.4:
            choice = self.random.choice
            return n(choice(NAMES + ["k"])) if self.random.random() < 0.5 else v(choice([0, "", "x", "ua", (), (1, "x")]))
        word = self.random.choice(["add", "join", "list", "size", "item"])
        count = {"size": 1, "list": self.random.randrange(3)}.get(word, 2)
        return (word,) + tuple(self.wild(depth - 1) for turn in range(count))

    def value(self):
        return self.random.choice([0, 1, 1, 2, 2, 3, 3, -1, 1, 2, "x", (1, 2)])

    def state(self):
        """Return a random state."""
        return {key: self.value() for key in KEYS + ["ud"] if self.random.random() < 0.7}

    def changed(self, state):
        """Return a state in which some keys of a state have changed."""
        other = self.state()
        made = dict(state)
        for key in self.random.sample(KEYS + ["ud"], self.random.randrange(4)):
            made.pop(key, None)
            if key in other:
                made[key] = other[key]
        return made

    def arguments(self):
        """Return random arguments."""
        if self.random.random() < 0.05:
            return None
        made = {name: self.random.randrange(4) for name in NAMES if self.random.random() < 0.95}
        if self.random.random() < 0.8:
            made["k"] = self.random.choice(KEYS)
        return made
