"""What shells say: [L4]."""

import unittest

from asidewoven.benches import Bench
from asidewoven.errors import AsideError, Unfit
from asidewoven.shells import Shell
from asidewoven.texts import asides_text, program_text
from samples import NEVER, NO_INTEGERS, NO_TUPLES, ONE, REST, with_item
from test_nodes import CALL, EVERY, SLOT, TELL, TELLS, aside
from test_weaving import WINDOW, counting

PROGRAM = ((7,), ((0, (TELL,)), (0, (CALL, ("ask", 0), ("tell", SLOT), ("answer", ("n", -2))))))
LOUD = aside(7, "before", TELLS, ("row", (EVERY, ("letters", (0,)))), ONE, (("tell", ("n", 8)),))
QUIET = aside(3, "behind", (("call", None),), EVERY, SLOT, (REST,))
AROUND = aside(55, "around", (("ask", None),), EVERY, SLOT, (("on", 0, ()),))
OTHERS = ("put", "out", "swap", "undo", "redo", "asides", "run", "woven")


def line_of(text):
    return text.replace("\n", " / ")


def text_of(*asides):
    return line_of(asides_text(asides))


class Shells(unittest.TestCase):
    def shell(self, *asides, program=PROGRAM):
        shell = Shell()
        self.assertEqual(shell.say("program " + line_of(program_text(program))), "ok")
        for place, one in enumerate(asides):
            self.assertEqual(shell.say(f"put {place} {text_of(one)}"), f"version {place + 1}")
        return shell

    def says(self, shell, line, wanted):
        with self.subTest(line=repr(line)[:200]):
            self.assertEqual(repr(shell.say(line)), repr(wanted))

    def all_of(self, shell):
        """What a shell tells of its bench, which it leaves as it is."""
        return [shell.say(line) for line in ("asides", "run 99 5", "woven")]

    def no_words(self, shell, *lines):
        before = self.all_of(shell)
        for line in lines:
            self.says(shell, line, "what")
        self.assertEqual(self.all_of(shell), before)


class Programs(Shells):
    def test_one_and_another(self):
        shell = self.shell(LOUD)
        self.says(shell, "asides", "7 before")
        self.says(shell, "program cells none / function 0 / tell 4 / end", "ok")
        self.says(shell, "asides", "none")
        self.says(shell, "run 9", "tell 4 / answer 0")
        # It is a new bench: no edit stands.
        self.says(shell, "undo", "error NothingToUndo")
        self.says(shell, "redo", "error NothingToRedo")
        self.says(shell, "put 0 " + text_of(LOUD), "version 1")

    def test_line_feeds(self):
        for text in ("cells none\nfunction 0\ntell 4\nend", "cells none / function 0\ntell 4 / end", "cells none / function 0 / tell 4\nend"):
            shell = Shell()
            self.says(shell, "program " + text, "ok")
            self.says(shell, "run 9", "tell 4 / answer 0")

    def test_from_the_left(self):
        # Of " / / " the first three signs are one line feed; "/ " is left.
        shell = Shell()
        for text, wanted in (("cells none / / function 0 / end", "error BadText"), ("cells none / function 0 / end / ", "error BadText"), (" / cells none / function 0 / end", "error BadText"),
                             ("cells none/ function 0/ end", "error BadText"), ("cells none /function 0 /end", "error BadText"), ("cells none  / function 0 / end", "error BadText"),
                             ("cells none / function 0 / end", "ok")):
            self.says(shell, "program " + text, wanted)

    def test_what_is_refused(self):
        for shell, after in ((Shell(), "no bench"), (self.shell(LOUD), "7 before")):
            for text, wanted in (("", "error BadText"), (" ", "error BadText"), ("cells", "error BadText"), (" cells none / function 0 / end", "error BadText"), ("cells none / function 0", "error BadText"),
                                 ("cells none / function 1 / end", "error BadProgram"), ("cells none / function 0 / set 8 1 / end", "error BadProgram"), ("cells none / function 0 / on 0 / end", "error BadText"),
                                 ("cells none / function 0 / " + "rest / " * 121 + "end", "error BadProgram"), ("x" * 20000, "error BadText"), ("\n" * 500, "error BadText"), (" / " * 500, "error BadText")):
                self.says(shell, "program " + text, wanted)
                # The elder bench stays.
                self.says(shell, "asides", after)

    def test_without_a_text(self):
        for shell in (Shell(), self.shell(LOUD)):
            for line in ("program", "program\n", "program\ncells none", "program\t", "programs x", "Program cells none / function 0 / end", " program cells none / function 0 / end"):
                self.says(shell, line, "what")


class NoBench(Shells):
    def test_each_word(self):
        shell = Shell()
        for word in OTHERS:
            for rest in ("", " ", " 0", " 0 1", " x y z", "  ", " / ", " \n", " -0", " " + "9" * 5000):
                self.says(shell, word + rest, "no bench")

    def test_other_words(self):
        shell = Shell()
        for line in ("", " ", "what", "ok", "puts", "run9", "undo\n", "asides\t", " undo", "Undo", "\n", "row 0 0 rest", "batch", "at 0", "copy", "told", "version", "help"):
            self.says(shell, line, "what")

    def test_what_is_no_string(self):
        for shell in (Shell(), self.shell(LOUD)):
            for value in NEVER + NO_INTEGERS + NO_TUPLES + (b"undo", 7, ("undo",), ["undo"], shell, Bench(PROGRAM, ()), Unfit()):
                if not isinstance(value, str):
                    self.says(shell, value, "what")

    def test_behind_a_refused_program(self):
        shell = Shell()
        self.says(shell, "program cells none", "error BadText")
        self.says(shell, "undo", "no bench")
        self.says(shell, "program cells none / function 1 / end", "error BadProgram")
        self.says(shell, "run 9", "no bench")
        self.says(shell, "program cells none / function 0 / end", "ok")
        self.says(shell, "run 9", "answer 0")


class Edits(Shells):
    def test_put(self):
        shell = self.shell()
        self.says(shell, "put 0 " + text_of(LOUD), "version 1")
        self.says(shell, "put 1 " + text_of(QUIET), "version 2")
        self.says(shell, "put 0 " + asides_text((AROUND,)), "version 3")
        self.says(shell, "asides", "55 around / 7 before / 3 behind")

    def test_put_refused(self):
        shell = self.shell(LOUD)
        for place in ("2", "3", "999999", "10"):
            self.says(shell, f"put {place} {text_of(QUIET)}", "error Unfit")
        self.says(shell, "put 0 " + text_of(LOUD), "error BadAside")
        self.says(shell, "put 0 " + text_of(with_item(QUIET, 2, (("get", 4),))), "error BadAside")
        # The errors of parse_asides go ahead of all else, for the bench's own program.
        for place in ("0", "9"):
            self.says(shell, f"put {place} x", "error BadText")
            self.says(shell, f"put {place}  " + text_of(QUIET), "error BadText")
            self.says(shell, f"put {place} " + text_of(with_item(QUIET, 4, ("v", 9))), "error BadAside")
            self.says(shell, f"put {place} " + text_of(QUIET, QUIET), "error BadAside")
            self.says(shell, f"put {place} " + text_of(QUIET) + " / ", "error BadText")
            self.says(shell, f"put {place}  ", "error BadText")
        self.says(shell, "asides", "7 before")

    def test_put_none_and_several(self):
        shell = self.shell(LOUD)
        self.no_words(shell, "put 0 ", "put 7 ", "put 0 " + text_of(QUIET, AROUND), "put 9 " + text_of(QUIET, AROUND), "put 0 " + text_of(LOUD, QUIET, AROUND))

    def test_places_of_put(self):
        shell = self.shell(LOUD)
        text = text_of(QUIET)
        self.no_words(shell, "put", "put ", "put 0", "put " + text, *[f"put {place} {text}" for place in ("-1", "-0", "00", "01", "1000000", "0000000", "+1", "1.0", "x", "v0", "", "0x1", "1_0", "(0)", "0\n", "\t0")])
        self.no_words(shell, f"put  0 {text}", f" put 0 {text}", "put x", "put -1 ", "put x ")
        self.says(shell, f"put 999999 {text}", "error Unfit")

    def test_too_many_asides(self):
        shell = self.shell(*[with_item(LOUD, 0, name) for name in range(10)])
        self.says(shell, "put 0 " + text_of(with_item(LOUD, 0, 10)), "error TooMany")
        self.says(shell, "put 11 " + text_of(with_item(LOUD, 0, 10)), "error Unfit")

    def test_out(self):
        shell = self.shell(LOUD, QUIET, AROUND)
        self.says(shell, "out 1", "version 4")
        self.says(shell, "asides", "7 before / 55 around")
        for place in ("2", "9", "999999"):
            self.says(shell, f"out {place}", "error Unfit")
        self.no_words(shell, "out", "out ", "out -1", "out -0", "out 00", "out 01", "out 1000000", "out 0 1", "out 0 ", "out  0", " out 0", "out x", "out 0\n", "out\t0", "out\n0", "out +0", "Out 0", "out0", "out None", "out None None")
        self.says(shell, "out 0", "version 5")
        self.says(shell, "out 0", "version 6")
        self.says(shell, "asides", "none")

    def test_swap(self):
        shell = self.shell(LOUD, QUIET)
        self.says(shell, "swap 0 1", "version 3")
        self.says(shell, "asides", "3 behind / 7 before")
        self.says(shell, "swap 1 1", "version 4")
        for places in ("0 2", "2 0", "7 7", "999999 0"):
            self.says(shell, f"swap {places}", "error Unfit")
        self.no_words(shell, "swap", "swap ", "swap 0", "swap 0 ", "swap  0 1", "swap 0  1", "swap 0 1 ", "swap 0 1 1", "swap 0 -1", "swap -0 1", "swap 00 1", "swap 0 1000000", "swap 0\n1", "swap 0 x", "swap x 0", "swap 0 / 1", "swap\t0 1")

    def test_undo_and_redo(self):
        shell = self.shell(LOUD, QUIET)
        self.says(shell, "redo", "error NothingToRedo")
        self.assertEqual([shell.say("undo") for _ in range(3)], ["version 1", "version 0", "error NothingToUndo"])
        self.says(shell, "asides", "none")
        self.assertEqual([shell.say("redo") for _ in range(3)], ["version 1", "version 2", "error NothingToRedo"])
        self.says(shell, "asides", "7 before / 3 behind")
        for word in ("undo", "redo", "asides", "woven"):
            self.no_words(shell, word + " ", word + " 0", word + "  ", word + "\n", word + "\t", " " + word, word.upper(), word + " " + word, word + "s", word[:-1] + "x", word + " / ", word + " -0", word + " x", word + " None")

    def test_forty_edits(self):
        shell = self.shell(LOUD)
        for version in range(2, 41):
            self.says(shell, "swap 0 0", f"version {version}")
        for line in ("swap 0 0", "out 0", "put 0 " + text_of(QUIET)):
            self.says(shell, line, "error TooManyEdits")
        self.says(shell, "out 1", "error Unfit")
        self.says(shell, "undo", "version 39")


class Telling(Shells):
    def test_asides(self):
        shell = self.shell()
        self.says(shell, "asides", "none")
        self.says(self.shell(LOUD), "asides", "7 before")
        self.says(self.shell(LOUD, QUIET, AROUND), "asides", "7 before / 3 behind / 55 around")

    def test_run(self):
        shell = self.shell(LOUD)
        for line, wanted in (("run 99 5", "tell 8 / tell 1 / tell 5 / answer -2"), ("run 99", "tell 8 / tell 1 / fault 2"), ("run 99 -5", "tell 8 / tell 1 / tell -5 / answer -2"), ("run 99 0 7 8", "tell 8 / tell 1 / tell 0 / answer -2"),
                             ("run 0", "bound"), ("run 0 1 2", "bound"), ("run 1", "bound"), ("run 3", "tell 8 / tell 1 / bound"), ("run 5000 999999", "tell 8 / tell 1 / tell 999999 / answer -2"),
                             ("run 5000 -999999", "tell 8 / tell 1 / tell -999999 / answer -2")):
            self.says(shell, line, wanted)
        self.says(self.shell(program=((), ((0, ()),))), "run 0", "answer 0")
        self.says(self.shell(program=((), ((0, (("fault", 9),)),))), "run 1", "fault 9")
        big = 10 ** 18
        self.says(self.shell(program=((), ((0, (("tell", ("n", -big)), ("answer", ("n", big)))),))), "run 9", f"tell {-big} / answer {big}")

    def test_runs_that_are_refused(self):
        shell = self.shell(LOUD)
        for line in ("run 5001", "run 999999", "run 9" + " 0" * 201, "run 5001 -1", "run 5001 1"):
            self.says(shell, line, "error Unfit")
        self.says(shell, "run 9" + " 0" * 200, "tell 8 / tell 1 / tell 0 / answer -2")

    def test_steps_have_no_sign(self):
        # STEPS is a count; "-" is for the inputs behind it, each of which may have it.
        shell = self.shell(LOUD)
        steps = ("-1", "-9", "-5000", "-5001", "-999999", "-0")
        self.no_words(shell, *[f"run {count}{inputs}" for count in steps for inputs in ("", " 0", " 1", " -1", " 1 -2", " 0" * 201)])
        self.says(shell, "run 9 -1", "tell 8 / tell 1 / tell -1 / answer -2")
        self.says(shell, "run 9 -1 -2 3", "tell 8 / tell 1 / tell -1 / answer -2")
        self.says(shell, "run 0 -1", "bound")
        self.no_words(shell, "run 9 -0", "run 9 1 -0", "run 9 -01")
        self.says(Shell(), "run -9 1", "no bench")

    def test_signs_in_runs_of_a_program_that_asks(self):
        shell = Shell()
        self.says(shell, "program cells none / function 0 / ask 0 / tell v0 / end", "ok")
        for line, wanted in (("run -9 1", "what"), ("run -1", "what"), ("run 9 -1", "tell -1 / answer 0"), ("run 5001 1", "error Unfit"), ("run -0", "what"), ("run 9 -0", "what")):
            self.says(shell, line, wanted)

    def test_counts(self):
        shell = self.shell(LOUD)
        for count in ("01", "00", "-0", "-00", "-01", "1000000", "-1000000", "0000009", "+1", "--1", "-", "1-", "1.", "1,", "x", "v0", "1e3", "", " 1", "1_0", "9" * 4000, "\n1", "1\n", "1\t", "None", "True"):
            self.no_words(shell, f"run {count}", f"run 9 {count}", f"run 9 1 {count} 2", f"run {count} 1")
        self.no_words(shell, "run", "run ", "run  9", "run 9 ", "run 9  1", "run 9 1 ", " run 9", "run\t9", "run\n9", "run 9\t1", "run 9\n1", "run 9 / 1", "Run 9", "run9")

    def test_woven(self):
        self.says(self.shell(), "woven", "2")
        self.says(self.shell(LOUD), "woven", "3")
        for asides in ((), (LOUD, QUIET), (LOUD, QUIET, AROUND)):
            self.says(self.shell(*asides), "woven", str(len(Bench(PROGRAM, asides).woven()[1])))
        self.says(self.shell(aside(2, "before", TELLS, WINDOW)), "woven", "error TooMany")
        self.says(self.shell(*counting(14, 13, 11), program=((), ((0, (CALL,)),))), "woven", "error TooMany")

    def test_words_of_no_line(self):
        shell = self.shell(LOUD)
        self.no_words(shell, "", " ", "  ", "\n", "\t", "what", "ok", "no bench", "row 0 0 rest", "batch", "at 0", "copy", "attempt", "told 9", "len", "version", "puts 0", "program", "/", " / ", "7", "-", "undo redo", "x" * 20000, " " * 20000)

    def test_by_name_and_two_shells(self):
        one, other = self.shell(LOUD), Shell()
        self.assertEqual(one.say(line="asides"), "7 before")
        self.assertEqual(other.say(line="asides"), "no bench")
        other.say("program cells none / function 0 / end")
        self.assertEqual([one.say("asides"), other.say("asides")], ["7 before", "none"])
        self.assertIn("say", vars(Shell))

    def test_only_strings_are_returned(self):
        shell = self.shell(LOUD)
        for line in OTHERS + ("program", "", None, "run 9", "out 0", "put 0 ", "program x"):
            try:
                self.assertIs(shell.say(line).__class__, str)
            except AsideError:
                self.fail(line)


if __name__ == "__main__":
    unittest.main()
