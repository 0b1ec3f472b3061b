"""The guarantees of the document over random histories, told by the functions of the interface alone."""

import itertools
import random
import unittest

from mendedruns.certificates import certificate, first_wrong_commit
from mendedruns.commuting import are_independent, commute, order_result, serial_result
from mendedruns.desks import preview
from mendedruns.explaining import first_wrong_reason, reasons
from mendedruns.history import changing_moments, first_change, trace_at
from mendedruns.journals import journal, recover
from mendedruns.logs import Log, replay
from mendedruns.mending import apply_effect, count_done
from mendedruns.orders import best_order, total_done
from mendedruns.papers import first_wrong, paper
from mendedruns.running import run
from mendedruns.stores import Store
from mendedruns.texts import format_program, parse_program
from tests.building import Maker
from tests.test_logs import random_entry

KEYS = ["x", "y", "ua", "ub", "uc", "ud", "zz"]


def histories(seed, count, with_tidy=False):
    """Yield a maker and logs of random histories."""
    maker = Maker(random.Random(seed))
    for turn in range(count):
        log = Log(maker.state())
        for number in range(maker.random.randrange(10, 40)):
            entry = random_entry(maker, log.desk(), number)
            if with_tidy or entry != ("tidy",):
                log.perform(entry)
        yield maker, log


def runs_of(desk):
    """Return the list of the tuples (program, arguments) of the committed runs, in order."""
    return [(program, dict(arguments)) for name, program, arguments, steps, ending in certificate(desk)]


def store_of(log):
    """Return a store that is built from the committed traces alone."""
    store, desk = Store(log.start), log.desk()
    for name in desk.ended:
        store.commit(desk.committed(name)[1])
    return store


class GuaranteesTest(unittest.TestCase):
    def test_one_by_one(self):
        for maker, log in histories(139, 30, with_tidy=True):
            desk = log.desk()
            self.assertEqual(serial_result(log.start, *runs_of(desk)), (desk.state(), list(desk.ended.values())))

    def test_mended_traces_are_those_of_the_run(self):
        for maker, log in histories(149, 30):
            desk, store = log.desk(), store_of(log)
            self.assertEqual([store[moment] for moment in store.kept], [desk.state(moment) for moment in store.kept])
            for name in desk.ended:
                (program, arguments), (moment, trace, done) = desk.recorded(name), desk.committed(name)
                self.assertTrue(trace_at(store, program, moment - 1, arguments=arguments) == trace)
                self.assertEqual(count_done(program, trace, store[moment - 1], arguments=arguments), 0)
                self.assertTrue(done >= len(trace) and (moment > 1 or done == len(trace)))
            for name in desk.active:
                (program, arguments), trace = desk.recorded(name), desk.trace_of(name)
                whole = run(program, store[desk.begun(name)], arguments=arguments)
                self.assertTrue(whole.first(len(trace)) == trace)

    def test_papers(self):
        for maker, log in histories(151, 15):
            desk = log.desk()
            for name in desk.active:
                program, arguments = desk.recorded(name)
                lines = paper(program, desk.trace_of(name), desk.state(), arguments=arguments)
                self.assertTrue(first_wrong(program, desk.trace_of(name), desk.state(), lines, arguments=arguments) is None)
                done = len([line for line in lines if line[4] != "kept"])
                self.assertEqual(done, total_done(desk, [name]))

    def test_mending_in_between(self):
        for maker, log in histories(157, 30):
            desk, other = log.desk(), log.desk()
            for name in desk.active:
                other.refresh(name)
                other.advance(name, 2)
            self.assertEqual(desk.commit_all(desk.active), other.commit_all(other.active))
            self.assertEqual(desk.state(), other.state())

    def test_committing_together(self):
        for maker, log in histories(163, 30):
            desk, other = log.desk(), log.desk()
            names = maker.random.sample(desk.active, len(desk))
            told = preview(desk, names)
            self.assertEqual([desk.commit(name) for name in names], told[0])
            self.assertEqual(other.commit_all(names), told[0])
            self.assertTrue(desk == other)
            self.assertEqual(desk.state(), told[1])

    def test_commuting_runs(self):
        for maker, log in histories(167, 20):
            desk = log.desk()
            runs = runs_of(desk)[:4]
            state = desk.state()
            for one, other in itertools.combinations(range(len(runs)), 2):
                first, second = runs[one], runs[other]
                told = order_result(state, [first, second], [0, 1]) == order_result(state, [first, second], [1, 0])
                self.assertEqual(commute(state, first, second), told)
                traces = [run(program, state, arguments=arguments) for program, arguments in (first, second)]
                self.assertTrue(told or not are_independent(*traces))

    def test_past_moments(self):
        for maker, log in histories(173, 20):
            store = store_of(log)
            program, arguments = maker.program(12), maker.arguments()
            endings = [trace_at(store, program, moment, arguments=arguments).ending for moment in store.kept]
            changing = changing_moments(store, program, arguments=arguments)
            self.assertEqual(changing, [moment for moment in store.kept[1:] if endings[moment] != endings[moment - 1]])
            first = first_change(store, program, trace_at(store, program, 0, arguments=arguments), arguments=arguments)
            self.assertTrue(not changing or first <= changing[0])

    def test_best_orders(self):
        for maker, log in histories(179, 20):
            desk = log.desk()
            for name in desk.active[4:]:
                desk.abort(name)
            count, names = best_order(desk)
            totals = {order: total_done(desk, list(order)) for order in itertools.permutations(desk.active)}
            self.assertEqual(count, min(totals.values()))
            self.assertEqual(names, list(min(order for order in totals if totals[order] == count)))

    def test_nothing_needs_a_dropped_version(self):
        for maker, log in histories(181, 30):
            desk, tidied = log.desk(), log.desk()
            tidied.tidy()
            for key in KEYS:
                self.assertEqual(reasons(desk, key), reasons(tidied, key))
                self.assertTrue(first_wrong_reason(tidied, key, reasons(desk, key)) is None)
            names = maker.random.sample(desk.active, len(desk) // 2)
            for one in (desk, tidied):
                one.watch("seen", ())
            self.assertEqual(preview(desk, names), preview(tidied, names))
            for name in names:
                self.assertEqual((desk.refresh(name), desk.advance(name), desk.commit(name)), (
                    tidied.refresh(name), tidied.advance(name), tidied.commit(name)))
            self.assertEqual(certificate(desk), certificate(tidied))
            self.assertEqual((desk.state(), desk.moment, desk.ended, desk.active), (tidied.state(), tidied.moment, tidied.ended, tidied.active))

    def test_certificates_and_journals(self):
        for maker, log in histories(191, 30):
            desk, store = log.desk(), store_of(log)
            made, text = certificate(desk), journal(store)
            self.assertTrue(first_wrong_commit(log.start, made) is None)
            told, lost = recover(text)
            self.assertTrue(told == store and lost == 0)
            cut = maker.random.randrange(len(text) + 1)
            told, lost = recover(text[:cut])
            count = text[:cut].count("\n")
            self.assertEqual(told and told.kept, list(range(count)) if count else None)
            if count:
                self.assertEqual(told.now, desk.state(count - 1))
                # The commits that are in the recovered part lead to the same state.
                state = log.start
                for name in list(desk.ended)[:count - 1]:
                    state = apply_effect(state, desk.committed(name)[1])
                self.assertEqual(told.now, state)

    def test_texts_and_replays(self):
        for maker, log in histories(193, 30, with_tidy=True):
            self.assertTrue(replay(log.start, log.entries) == log.desk())
            other = Log(log.start)
            for entry in log.entries:
                if entry[0] == "begin":
                    entry = (entry[0], entry[1], parse_program(format_program(entry[2])), entry[3])
                other.perform(entry)
            self.assertTrue(other == log and other.desk() == log.desk())


if __name__ == "__main__":
    unittest.main()
