"""Runs a program, and takes outcomes from an earlier run where they cannot be other ones."""

from mendedruns.memory import Memory
from mendedruns.outcomes import mark_of, name_labels, outcome_of, sought_label, touched_key

MOST_STEPS = 1000


def performed(program, state, arguments, old):
    """Return a tuple (records, ending, changes) of the run of a program that was checked.

    old is a dict from places to the steps of an earlier run of the program. Each record is a
    tuple (step, sources, mark, key) with the key that the step wrote or deleted, or None.
    changes is the effect of the run, with a tuple (value, place) under each key that holds the
    place of the step, too.
    """
    machine = Machine(program, Memory(state, arguments), old)
    ending = ending_of(machine.run_block(program, ()))
    changes = machine.memory.changes if ending[0] == "returned" else {}
    return (machine.records, ending, changes)


def ending_of(halt):
    """Return the ending of a run of which this has come out."""
    if halt is None:
        return ("returned", "")
    if halt[0] == "returned":
        return ("returned", halt[1])
    return ("refused", halt[1])


class Machine:
    """A program on its way.

    What runs a part of the program returns None if it came to its end, otherwise what halted it:
    ("returned", value, place), ("refused", reason), or ("stopped", "steps"), which no try ends.
    """

    def __init__(self, program, memory, old):
        # From names to tuples of the parameters and the block.
        self.procedures = {part[1]: part[2:] for part in program if part[0] == "define"}
        self.memory = memory
        self.old = old
        self.records = []

    def run_block(self, block, place):
        """Run the statements of a block, whose places begin with this one."""
        for index, statement in enumerate(block):
            halt = self.run_statement(statement, place + (index,))
            if halt is not None:
                return halt
        return None

    def run_statement(self, statement, place):
        """Run a statement with all that is in its blocks."""
        word = statement[0]
        if word == "define":
            return None
        if word == "try":
            return self.run_try(statement, place)
        if word == "while":
            return self.run_while(statement, place)
        outcome = self.take_step(statement, place)
        if outcome[0] != "done":
            return outcome
        value = outcome[1]
        if word == "if" and value == 1:
            return self.run_block(statement[2], place + ("then",))
        if word == "if":
            return self.run_block(statement[3], place + ("else",))
        if word == "each":
            return self.run_turns(statement, place, list(enumerate(value)))
        if word == "scan":
            return self.run_turns(statement, place, list(zip(value, value)))
        if word == "call":
            return self.run_call(statement, place, value)
        if word == "return":
            return ("returned", value, place)
        self.remember(statement, place, value)
        return None

    def remember(self, statement, place, value):
        """Keep what a statement without blocks has done."""
        if statement[0] == "write":
            self.memory.put(value[0], value[1], place)
        elif statement[0] == "delete":
            self.memory.put(value, None, place)
        else:
            self.memory.assign(statement[1], value, place)

    def run_turns(self, statement, place, turns):
        """Run the block of an each or a scan for tuples of what stands in the place, and the item."""
        word, name, expression, block = statement
        for mark, item in turns:
            self.memory.assign(name, item, place)
            halt = self.run_block(block, place + (word, mark))
            if halt is not None:
                return halt
        return None

    def run_while(self, statement, place):
        """Run a while, with a step for each evaluation of its condition."""
        turn = 0
        while True:
            outcome = self.take_step(statement, place + ("while", turn))
            if outcome[0] != "done":
                return outcome
            if outcome[1] == 0:
                return None
            halt = self.run_block(statement[2], place + ("while", turn))
            if halt is not None:
                return halt
            turn += 1

    def run_try(self, statement, place):
        """Run the first block of a try, and the other one instead if it is refused."""
        snapshot = self.memory.snapshot()
        halt = self.run_block(statement[1], place + ("try",))
        if halt is None or halt[0] != "refused":
            return halt
        self.memory.go_back(snapshot)
        return self.run_block(statement[2], place + ("other",))

    def run_call(self, statement, place, values):
        """Run a procedure, whose variables are at first its parameters."""
        parameters, block = self.procedures[statement[2]]
        left = self.memory.exchange({name: (value, place) for name, value in zip(parameters, values)})
        halt = self.run_block(block, place + ("call",))
        self.memory.exchange(left)
        if halt is not None and halt[0] != "returned":
            return halt
        word, result, source = ("returned", "", place) if halt is None else halt
        self.memory.assign(statement[1], result, source)
        return None

    def take_step(self, statement, place):
        """Keep or do the next step, record it, and return its outcome."""
        if len(self.records) == MOST_STEPS:
            return ("stopped", "steps")
        inputs, sources = self.looked_up(statement)
        old = self.old.get(place)
        mark = mark_of(inputs, old)
        outcome = old[2] if mark == "kept" else outcome_of(statement, inputs)
        self.records.append(((place, inputs, outcome), sources, mark, touched_key(statement, outcome)))
        return outcome

    def looked_up(self, statement):
        """Return a tuple of the inputs of a step that executes a statement now, and of their sources."""
        labels = name_labels(statement)
        found = [self.memory.look_up(label) for label in labels]
        inputs = tuple([(label, value) for label, (value, source) in zip(labels, found)])
        sources = tuple([source for value, source in found])
        label = sought_label(statement, inputs)
        if label is None:
            return (inputs, sources)
        value, source = self.memory.look_up(label)
        return (inputs + ((label, value),), sources + (source,))
