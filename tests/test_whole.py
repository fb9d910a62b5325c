"""The whole program at once: [A2], with programs, asides and texts up to their bounds."""

import random
import unittest

from asidewoven.benches import Bench
from asidewoven.classes import classes, classes_hold, parting, parting_holds
from asidewoven.errors import AsideError, NoPart, TooMany
from asidewoven.exchange import run_exchanged, run_handed
from asidewoven.fits import fits_at, states_at
from asidewoven.free import free_run
from asidewoven.judging import judge
from asidewoven.machine import moments, openings, run
from asidewoven.nodes import all_chains, ends, nodes, runnable
from asidewoven.programs import asides_error, body_at, letters_of, program_error, rows_of
from asidewoven.shells import Shell
from asidewoven.texts import asides_text, parse_asides, parse_program, program_text
from asidewoven.turnings import turned
from asidewoven.weaving import free_woven, run_woven, weave
from asidewoven.why import first_unlike, why
from making import LIVELY, NUMBERS, Making
from samples import ONE, REST, nested, with_item
from test_nodes import EVERY, SLOT, TELL, aside, made
from test_weaving import few_calls


def at_the_bounds(seed):
    """A program with 8 cells, 12 functions, 120 rows, and 10 asides for it."""
    source = random.Random(seed)
    making = Making(source, 8, tuple(source.randint(0, 8) for _ in range(11)) + (0,), LIVELY)
    rows = [making.rows(4, False, 0, 2) for _ in range(12)]
    while sum(len(rows_of(some)) for some in rows) > 120:
        at = max(range(12), key=lambda f: len(rows_of(rows[f])))
        rows[at] = rows[at][:-1]
    rows[source.randrange(12)] += (REST,) * (120 - sum(len(rows_of(some)) for some in rows))
    program = (tuple(source.choice(NUMBERS) for _ in range(8)), tuple(zip(making.parameters, rows)))
    names = source.sample(range(100), 10)
    letters = tuple(range(12)) + tuple(-1 - name for name in names)
    asides = tuple(making.aside(name, letters, seed % 3 > 0) for name in names)
    assert program_error(program) is None and asides_error(program, asides) is None
    return program, asides


def handed(source):
    inputs = tuple(source.choice(NUMBERS) for _ in range(source.choice((0, 3, 200))))
    choices = tuple(source.choice((0, 0, 0, 1, 2, 9)) for _ in range(source.choice((0, 40, 200))))
    return inputs, choices


class Whole(unittest.TestCase):
    def programs(self, many=40, bounded=12):
        for seed in range(many):
            yield seed, made(seed)[:2]
        for seed in range(bounded):
            yield seed, at_the_bounds(seed)

    def test_a_texts(self):
        deep = nested(6, "times", 2)
        program = ((10 ** 18, -(10 ** 18)) * 4, ((8, (("if", deep, (("try", (("if", ONE, (("try", (TELL,), tuple(range(10)), 7, (REST,)),), ()),), (), 0, ()),), ()),)),) + ((0, ()),) * 11)
        part = ("or", (("row", (("letters", tuple(range(-100, 12))), ("any",))), ("and", (("not", ("star", ("none",))), EVERY, ("any",), ("any",))), ("star", ("not", ("any",))), ("none",)))
        asides = tuple(aside(name, "around", (("call", None), ("get", 7), ("put", None), ("tell", None), ("ask", None)), part, deep, (("on", 7, (deep,) * 8),)) for name in (0, 99))
        for one, listed in [(program, asides)] + [told for _, told in self.programs()]:
            self.assertIsNone(program_error(one))
            self.assertIsNone(asides_error(one, listed))
            self.assertEqual(repr(parse_program(program_text(one))), repr(one))
            self.assertEqual(repr(parse_asides(one, asides_text(listed))), repr(listed))

    def test_b_what_fits_hangs_on_the_states(self):
        for seed, (program, asides) in self.programs(25, 4):
            source = random.Random(seed)
            letters, known = letters_of(program, asides), {}
            piles = [tuple(source.choice(letters) for _ in range(source.randint(0, 8))) for _ in range(20)]
            for pile in piles + list(openings(program, asides, (1, 2), 40))[:20]:
                try:
                    states = states_at(program, asides, pile)
                except TooMany:
                    continue
                for kind, number in (("tell", None), ("ask", None), ("call", 0), ("call", len(program[1]) - 1), ("get", 0), ("put", 0)):
                    fits = fits_at(asides, kind, number, pile)
                    self.assertEqual(known.setdefault((kind, number, states), fits), fits)

    def test_c_bodies_and_what_comes_of_them(self):
        for seed, (program, asides) in self.programs():
            source = random.Random(seed)
            try:
                told = {row[0]: row[1:] for row in ends(program, asides, ())}
            except TooMany:
                continue
            by_head = {}
            for node in told:
                by_head.setdefault(node[:2], []).append(node)
            known = {}
            for steps in (20, 300):
                inputs, _ = handed(source)
                for pile in openings(program, asides, inputs, steps)[-20:]:
                    self.assertIn((pile[-1], states_at(program, asides, pile)), by_head)
                _, end, _ = run(program, asides, inputs, steps)
                main = (len(program[1]) - 1, states_at(program, asides, (len(program[1]) - 1,)), None, ())
                answered, ended, kinds = told[main]
                self.assertTrue(end == ("bound",) or (end[0] == "answer" and (answered or ended)) or (end[0] == "fault" and end[1] in kinds))
                # Each moment is at a runnable row of its kind, of a node come to.
                for kind, _, _, pile, _ in moments(program, asides, inputs, steps)[:8]:
                    head = (pile[-1], states_at(program, asides, pile))
                    rows = dict(rows_of(body_at(program, asides, head[0])))
                    if head not in known:
                        known[head] = {rows[place][0] for node in by_head[head] for place in runnable(program, asides, (), node)}
                    self.assertIn(kind, known[head])

    def test_d_classes(self):
        parted = 0
        for seed, (program, asides) in self.programs(40, 6):
            source = random.Random(seed)
            try:
                told = classes(program, asides, ())
            except TooMany:
                continue
            self.assertIs(classes_hold(program, asides, (), told), True)
            lots = {node: number for number, part in enumerate(told) for node in part}
            pairs = [(node, other) for node in lots for other in lots if node[0] == other[0] and node < other]
            for node, other in source.sample(pairs, min(4, len(pairs))):
                if lots[node] == lots[other]:
                    with self.assertRaises(NoPart):
                        parting(program, asides, node, other)
                    continue
                try:
                    self.assertIs(parting_holds(program, asides, node, other, parting(program, asides, node, other)), True)
                    parted += 1
                except NoPart:
                    self.assertGreater(len(lots), 60)
        self.assertGreater(parted, 5)

    def test_e_weavings(self):
        many = 0
        for seed, (program, asides) in self.programs():
            source = random.Random(seed)
            try:
                woven, chart = weave(program, asides, ())
            except TooMany as error:
                with self.assertRaises(TooMany) as caught:
                    nodes(program, asides, ())
                self.assertEqual(caught.exception.limit, error.limit)
                continue
            many = max(many, len(chart))
            self.assertIsNone(judge(program, asides, (), woven, chart))
            for steps in (0, 30, 5000):
                inputs, choices = handed(source)
                with few_calls():
                    self.assertEqual(run_woven(woven, inputs, steps), run(program, asides, inputs, steps))
                    self.assertEqual(free_woven(woven, choices), free_run(program, asides, choices))
        self.assertGreater(many, 30)

    def test_f_turnings(self):
        for seed, (program, asides) in self.programs():
            source = random.Random(seed)
            try:
                woven, chart = weave(program, asides, ())
            except TooMany:
                continue
            order = list(range(len(chart)))
            source.shuffle(order)
            told = turned(program, asides, (), woven, chart, ("order", tuple(order)))
            wide = [number for number, item in enumerate(told[1]) if len(item) > 1]
            for number in wide[:2]:
                try:
                    told = turned(program, asides, (), *told, ("split", number, told[1][number][:1]))
                except AsideError:
                    continue
            self.assertIsNone(judge(program, asides, (), *told))
            inputs, choices = handed(source)
            self.assertEqual(run_woven(told[0], inputs, 100), run(program, asides, inputs, 100))
            number = {node: at for at, part in enumerate(chart) for node in part}
            told = turned(program, asides, (), *told, ("drop",))
            lots = {}
            for at, item in enumerate(told[1]):
                lots.setdefault(number[item[0]], []).append(at)
            lots = tuple(tuple(some) for some in lots.values() if len(some) > 1)
            if lots:
                told = turned(program, asides, (), *told, ("join", lots))
            order = tuple(sorted(range(len(told[1])), key=lambda at: number[told[1][at][0]]))
            self.assertEqual(turned(program, asides, (), *told, ("order", order)), (woven, chart))

    def test_g_exchanges(self):
        changed = 0
        for seed in range(30):
            program, asides = at_the_bounds(seed)
            source = random.Random(seed)
            functions = [(many, (REST,) + rows[:2]) for many, rows in program[1]]
            program = (program[0], tuple(functions))
            others = []
            for number in range(40):
                _, listed = at_the_bounds(1000 + 50 * seed + number % 3)
                kept = [(with_item(one, 2, (("call", None), ("tell", None)))) for one in listed[:number % 4]]
                others.append(((program[0][::-1], program[1]), tuple(kept)))
            inputs, _ = handed(source)
            told = run_exchanged(program, asides[:2], tuple(others), inputs, 400)
            try:
                with few_calls():
                    more = run_handed(program, asides[:2], tuple(others), inputs, 400)
            except TooMany:
                continue
            changed += told[3]
            self.assertEqual(more[:4], told)
        self.assertGreater(changed, 60)

    def test_h_benches(self):
        for seed, (program, asides) in self.programs(20, 6):
            source = random.Random(seed)
            bench = Bench(program, asides)
            before = (bench.program, bench.asides)
            done = 0
            for _ in range(40):
                place = source.randint(0, len(bench))
                try:
                    if source.random() < 0.5 and len(bench) > 0:
                        bench.out(place)
                    else:
                        bench.put(place, aside(source.randrange(100), "before", (("tell", None),)))
                    done += 1
                except AsideError:
                    continue
            after = (bench.program, bench.asides)
            for version in range(done - 1, -1, -1):
                self.assertEqual(bench.undo(), version)
            self.assertEqual((bench.program, bench.asides), before)
            self.assertEqual(bench, Bench(program, asides))
            for version in range(done):
                self.assertEqual(bench.redo(), version + 1)
            self.assertEqual((bench.program, bench.asides), after)

    def test_why_asides_are_run(self):
        for seed, (program, asides) in self.programs(30, 6):
            opened = [pile for pile in openings(program, asides, (3, 4), 200) if pile[-1] < 0]
            for number, pile in enumerate(opened[:20]):
                try:
                    begun, place, states = why(program, asides, (3, 4), 200, number)
                except TooMany as error:
                    self.assertEqual(error.limit, 64)
                    break
                self.assertEqual(-1 - asides[place][0], pile[-1])
                self.assertEqual(pile[:len(begun)], begun)
                self.assertEqual(states, states_at(program, asides, begun))
            self.assertIsNone(first_unlike(program, asides, asides, (3, 4), 200))

    def test_shells_by_texts(self):
        for _, (program, asides) in self.programs(20, 6):
            shell = Shell()
            self.assertEqual(shell.say("program " + program_text(program).replace("\n", " / ")), "ok")
            for place, one in enumerate(asides):
                self.assertEqual(shell.say(f"put {place} " + asides_text((one,)).replace("\n", " / ")), f"version {place + 1}")
            events, end, _ = run(program, asides, (5, -6), 300)
            self.assertEqual(shell.say("run 300 5 -6"), " / ".join(" ".join(str(item) for item in row) for row in events + (end,)))
            try:
                wanted = str(len(weave(program, asides, ())[1]))
            except TooMany:
                wanted = "error TooMany"
            self.assertEqual(shell.say("woven"), wanted)

    def test_piles_at_their_bound(self):
        # Bodies of asides and of functions one above the other, up to sixty, through weavings too.
        rows = (("if", SLOT, (("try", (("call", 1, 0, (("less", SLOT, ONE),)),), (), 0, ()),), (TELL,)),)
        around = aside(4, "around", (("call", 0),), EVERY, ONE, (("on", 0, ()), ("answer", SLOT)))
        for depth in range(26, 32):
            program = ((), ((1, rows), (0, (("call", 0, 0, (("n", depth),)), ("tell", SLOT)))))
            with few_calls():
                woven, chart = weave(program, (around,), ())
                told = run(program, (around,), (), 5000)
                self.assertEqual(run_woven(woven, (), 5000), told)
            # The main body, and two bodies for each of depth + 1 calls.
            self.assertEqual(told[1], ("answer", 0) if 1 + 2 * (depth + 1) <= 60 else ("fault", 3))
            self.assertEqual(max(len(pile) for pile in openings(program, (around,), (), 5000)), min(60, 1 + 2 * (depth + 1)))
            self.assertEqual(len(all_chains(program, (around,), ())), len(nodes(program, (around,), ())))


if __name__ == "__main__":
    unittest.main()
