"""A second, plain way to run programs, with which the runs of the package are compared.

It writes down changes one behind the other, looks for the last one, and leaves blocks by errors.
"""

from mendedruns.expressions import evaluate, names_in
from mendedruns.values import is_key


class Refused(Exception):
    pass


class Returned(Exception):
    pass


class Stopped(Exception):
    pass


class Reference:
    def __init__(self, program, state, arguments=None):
        self.procedures = {part[1]: part for part in program if part[0] == "define"}
        self.state = state
        self.given = arguments or {}
        # Each variable has a log of its own frame; a change of a key is told in the other log.
        self.frames = [[(name, value, "argument") for name, value in self.given.items()]]
        self.log = []
        self.steps = []
        self.sources = []
        self.touched = set()
        self.ending = self.ended(program)
        self.effect = {key: value for key, value, place in self.log} if self.ending[0] == "returned" else {}

    def ended(self, program):
        try:
            self.block(program, ())
        except Returned as returned:
            return ("returned", returned.args[0])
        except Refused as refused:
            return ("refused", refused.args[0])
        except Stopped:
            return ("refused", "steps")
        return ("returned", "")

    def block(self, block, place):
        for index, statement in enumerate(block):
            getattr(self, "do_" + statement[0])(statement, place + (index,))

    def variable(self, name):
        return next(((value, source) for found, value, source in reversed(self.frames[-1]) if found == name), (None, None))

    def held(self, key):
        told = next(((value, source) for found, value, source in reversed(self.log) if found == key), None)
        return told if told else (self.state.get(key), "store")

    def assign(self, name, value, source):
        self.frames[-1].append((name, value, source))

    def step(self, place, expressions, finish, extra=None):
        """Take a step; finish gives the value in the outcome, or the reason of a refusal behind None."""
        if len(self.steps) == 1000:
            raise Stopped()
        names = []
        for expression in expressions:
            names += [name for name in names_in(expression) if name not in names]
        inputs = [(("name", name), self.variable(name)[0]) for name in names]
        sources = [self.variable(name)[1] for name in names]
        variables = {name: self.variable(name)[0] for name in names if self.variable(name)[0] is not None}
        answers = [evaluate(expression, variables) for expression in expressions]
        failed = [answer[1] for answer in answers if answer[0] == "failed"]
        if failed:
            outcome = ("refused", failed[0])
        else:
            found = extra(answers[0][1]) if extra else None
            if found:
                inputs.append(found[0])
                sources.append(found[1])
            outcome = finish(*[answer[1] for answer in answers], *([found] if extra else []))
        self.steps.append((place, tuple(inputs), outcome))
        self.sources.append(tuple(sources))
        if outcome[0] == "refused":
            raise Refused(outcome[1])
        return outcome[1]

    def do_let(self, statement, place):
        self.assign(statement[1], self.step(place, [statement[2]], lambda value: ("done", value)), place)

    def do_read(self, statement, place):
        def extra(key):
            if is_key(key):
                value, source = self.held(key)
                return ((("key", key), "" if value is None else value), source)

        finish = lambda key, found: ("done", found[0][1]) if found else ("refused", "kind")
        self.assign(statement[1], self.step(place, [statement[2]], finish, extra), place)

    def do_write(self, statement, place):
        finish = lambda key, value: ("done", (key, value)) if is_key(key) else ("refused", "kind")
        key, value = self.step(place, [statement[1], statement[2]], finish)
        self.log.append((key, value, place))
        self.touched.add(key)

    def do_delete(self, statement, place):
        finish = lambda key: ("done", key) if is_key(key) else ("refused", "kind")
        key = self.step(place, [statement[1]], finish)
        self.log.append((key, None, place))
        self.touched.add(key)

    def condition(self, value):
        return ("done", int(value != 0)) if isinstance(value, int) else ("refused", "kind")

    def do_if(self, statement, place):
        if self.step(place, [statement[1]], self.condition):
            self.block(statement[2], place + ("then",))
        else:
            self.block(statement[3], place + ("else",))

    def do_each(self, statement, place):
        finish = lambda value: ("done", value) if isinstance(value, tuple) else ("refused", "kind")
        for index, item in enumerate(self.step(place, [statement[2]], finish)):
            self.assign(statement[1], item, place)
            self.block(statement[3], place + ("each", index))

    def do_scan(self, statement, place):
        def extra(prefix):
            if isinstance(prefix, str):
                every = set(self.state) | {key for key, value, source in self.log}
                found = sorted(key for key in every if key.startswith(prefix) and self.held(key)[0] is not None)
                return ((("prefix", prefix), tuple(found)), tuple(self.held(key)[1] for key in found))

        finish = lambda prefix, found: ("done", found[0][1]) if found else ("refused", "kind")
        for key in self.step(place, [statement[2]], finish, extra):
            self.assign(statement[1], key, place)
            self.block(statement[3], place + ("scan", key))

    def do_while(self, statement, place):
        turn = 0
        while self.step(place + ("while", turn), [statement[1]], self.condition):
            self.block(statement[2], place + ("while", turn))
            turn += 1

    def do_define(self, statement, place):
        pass

    def do_call(self, statement, place):
        word, name, called, expressions = statement
        values = self.step(place, list(expressions), lambda *told: ("done", tuple(told)))
        word, called, parameters, block = self.procedures[called]
        self.frames.append([(parameter, value, place) for parameter, value in zip(parameters, values)])
        result = ("", place)
        try:
            self.block(block, place + ("call",))
        except Returned as returned:
            result = returned.args
        self.frames.pop()
        self.assign(name, *result)

    def do_try(self, statement, place):
        marks = len(self.frames), len(self.frames[-1]), len(self.log)
        try:
            self.block(statement[1], place + ("try",))
            return
        except Refused:
            del self.frames[marks[0]:]
            del self.frames[-1][marks[1]:]
            del self.log[marks[2]:]
        self.block(statement[2], place + ("other",))

    def do_refuse(self, statement, place):
        self.step(place, [statement[1]], lambda value: ("refused", value))

    def do_return(self, statement, place):
        raise Returned(self.step(place, [statement[1]], lambda value: ("done", value)), place)
