import random
import unittest

from mendedruns.certificates import certificate, first_wrong_commit
from mendedruns.desks import Desk, preview
from mendedruns.errors import Broken, UnknownMoment
from mendedruns.mending import apply_effect
from mendedruns.running import run
from tests.building import Maker, let, n, read, v
from tests.reference import Reference

CONSTRAINTS = (
    (read("a", v("x")), ("if", ("less", v(1), n("a")), (("refuse", v("much")),), ())),
    (("scan", "k", v("u"), (read("a", n("k")), ("if", ("less", v(2), n("a")), (("refuse", n("k")),), ()))),),
)


class Told:
    """What a run or view of the model has: its program and arguments, its moment, its steps, and how many were done."""

    def __init__(self, program, arguments, moment):
        self.program, self.arguments, self.moment = program, arguments, moment
        self.steps = []
        self.done = 0
        self.ending = None

    def go_on(self, state, count):
        """Take the steps of a run at a state, at most so many, and return how many of them are done."""
        whole = Reference(self.program, state, self.arguments)
        old = {step[0]: step for step in self.steps}
        steps = whole.steps if count is None else whole.steps[:count]
        done = sum(step[0] not in old or old[step[0]][1] != step[1] for step in steps)
        self.steps, self.done = steps, self.done + done
        self.ending = whole.ending if len(steps) == len(whole.steps) else None
        return whole, done


class Model:
    """A desk that runs every program anew whenever it needs one of its steps."""

    def __init__(self, state, constraints):
        self.states = [state]
        self.dropped = 0
        self.constraints = constraints
        self.open, self.ended, self.views = {}, {}, {}

    def broken(self, state):
        refused = [index for index, program in enumerate(self.constraints) if Reference(program, state).ending[0] == "refused"]
        return refused[0] if refused else None

    def begin(self, name, program, arguments):
        self.open[name] = Told(program, arguments, len(self.states) - 1)
        self.open[name].go_on(self.states[-1], 0)

    def watch(self, name, program, arguments):
        self.views[name] = Told(program, arguments, None)
        self.views[name].go_on(self.states[-1], None)

    def advance(self, name, count):
        told = self.open[name]
        return told.go_on(self.states[told.moment], len(told.steps) + count)[1]

    def refresh(self, name):
        told = self.open[name]
        told.moment = len(self.states) - 1
        return told.go_on(self.states[-1], len(told.steps))[1]

    def commit(self, name):
        told = self.open.pop(name)
        whole = told.go_on(self.states[-1], None)[0]
        after = {**self.states[-1], **whole.effect}
        after = {key: value for key, value in after.items() if value is not None}
        broken = self.broken(after)
        self.states.append(self.states[-1] if broken is not None else after)
        self.ended[name] = (told, whole, len(self.states) - 1, whole.ending if broken is None else ("broken", broken))
        for view in self.views.values():
            view.go_on(self.states[-1], None)
        return self.ended[name][3]

    def tidy(self):
        first = min([len(self.states) - 1] + [told.moment for told in self.open.values()])
        count = max(0, first - self.dropped)
        self.dropped = max(first, self.dropped)
        return count


class HistoriesTest(unittest.TestCase):
    def compare(self, desk, model):
        """Compare all that a desk tells with a model."""
        self.assertEqual(desk.moment, len(model.states) - 1)
        for moment, state in enumerate(model.states):
            if moment >= model.dropped:
                self.assertEqual(desk.state(moment), state)
            else:
                self.assertRaises(UnknownMoment, desk.state, moment)
        self.assertEqual(desk.active, list(model.open))
        for name, told in model.open.items():
            trace = desk.trace_of(name)
            self.assertEqual((trace.steps, trace.ending), (told.steps, told.ending))
            self.assertEqual((desk.begun(name), desk.done_by(name)), (told.moment, told.done))
            self.assertEqual(desk.recorded(name), (told.program, told.arguments))
        self.assertEqual(list(desk.ended.items()), [(name, model.ended[name][3]) for name in model.ended])
        for name, (told, whole, made, ending) in model.ended.items():
            moment, trace, done = desk.committed(name)
            self.assertEqual((moment, trace.steps, trace.ending, trace.effect, done), (
                made, whole.steps, whole.ending, whole.effect, told.done))
            self.assertEqual(desk.recorded(name), (told.program, told.arguments))
        self.assertEqual(desk.views, {name: (told.ending, told.done) for name, told in model.views.items()})

    def act(self, maker, desk, model, number):
        """Do one thing at both, and compare what they return."""
        choose = maker.random.choice
        word = choose(["begin", "begin", "advance", "advance", "advance", "refresh", "commit", "commit", "abort", "tidy", "watch",
                       "unwatch", "commit_all"])
        name = "n" + "abcdefghijklmnopqrstuvwxyz"[number // 26] + "abcdefghijklmnopqrstuvwxyz"[number % 26]
        if word in ("begin", "watch"):
            if len(model.open) < 6 and len(model.views) < 4:
                given = (name, maker.program(maker.random.randrange(1, 14)), maker.arguments())
                getattr(desk, word)(given[0], given[1], arguments=given[2])
                getattr(model, word)(*given)
        elif word == "tidy":
            self.assertEqual(desk.tidy(), model.tidy())
        elif word == "unwatch":
            if model.views:
                name = choose(list(model.views))
                desk.unwatch(name)
                del model.views[name]
        elif word == "commit_all":
            names = maker.random.sample(list(model.open), maker.random.randrange(len(model.open) + 1))
            told, before = preview(desk, names), sum(model.open[name].done for name in names)
            endings = [model.commit(name) for name in names]
            done = sum(model.ended[name][0].done for name in names) - before
            self.assertEqual(told, (endings, model.states[-1], done))
            self.assertEqual(desk.commit_all(names), endings)
        elif model.open:
            self.act_at_run(maker, desk, model, word, choose(list(model.open)))

    def act_at_run(self, maker, desk, model, word, name):
        if word == "abort":
            desk.abort(name)
            del model.open[name]
        elif word == "advance":
            count = maker.random.choice([0, 1, 1, 2, 3, 5, 1000])
            self.assertEqual(desk.advance(name, count), model.advance(name, count))
        else:
            self.assertEqual(getattr(desk, word)(name), getattr(model, word)(name))

    def begin(self, maker):
        """Return a desk and a model of it, with a state that breaks no constraint."""
        while True:
            state = maker.state()
            model = Model(state, CONSTRAINTS)
            if model.broken(state) is None:
                return Desk(state, constraints=CONSTRAINTS), model
            with self.assertRaises(Broken) as caught:
                Desk(state, constraints=CONSTRAINTS)
            self.assertEqual(caught.exception.index, model.broken(state))

    def test_random_histories(self):
        maker = Maker(random.Random(41))
        endings = []
        for turn in range(60):
            desk, model = self.begin(maker)
            first = desk.state()
            for number in range(60):
                if number % 10 == 9:
                    copy = desk.copy()
                    with desk.trial():
                        self.act(maker, desk, copied_model(model), number)
                    self.assertTrue(desk == copy)
                self.act(maker, desk, model, number)
                if number % 5 == 0:
                    self.compare(desk, model)
            self.compare(desk, model)
            self.check_serial(desk, first)
            endings += [ending[0] for ending in desk.ended.values()]
        self.assertTrue(min(endings.count(word) for word in ("returned", "refused", "broken")) > 10)

    def check_serial(self, desk, state):
        """Check that the committed programs, run one by one, come to the endings and the state of a desk."""
        certified = certificate(desk)
        self.assertTrue(first_wrong_commit(state, certified, constraints=CONSTRAINTS) is None)
        self.assertEqual([entry[0] for entry in certified], list(desk.ended))
        for name, program, arguments, steps, ending in certified:
            trace = run(program, state, arguments=dict(arguments))
            self.assertEqual(tuple(trace.steps), steps)
            if ending[0] != "broken":
                self.assertEqual(trace.ending, ending)
                state = apply_effect(state, trace)
        self.assertEqual(desk.state(), state)


def copied_model(model):
    """Return a copy of a model that can be changed without it."""
    made = Model(None, model.constraints)
    made.states, made.dropped = list(model.states), model.dropped
    made.ended = dict(model.ended)
    for before, after in ((model.open, made.open), (model.views, made.views)):
        for name, told in before.items():
            after[name] = Told(told.program, told.arguments, told.moment)
            after[name].steps, after[name].done, after[name].ending = told.steps, told.done, told.ending
    return made


if __name__ == "__main__":
    unittest.main()
