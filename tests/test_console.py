"""The console (points 190 and 191)."""

import random
import unittest

from tests.samples import random_model
from tests.worlds import WEIGHTS, crowded_model, random_act, random_settings
from vancourier.console import integer_or_none, run_console
from vancourier.errors import BadAct, BadModel
from vancourier.notation import model_text, parse_model
from vancourier.plain import run_plain
from vancourier.world import World

DOCUMENTED = "end 9\nkind box\nfield n 0 9\non go\nset n add .n arg\nobject box\nstart 0 0 go 5"

# `go` adds its argument to a negative field, and sends it to the next object 2 later.
MODEL = """end 9
kind box
field n 0 9
field m -99 -1
on go
set n add .n 1
set m sub .m arg
send add self 1 2 go sub 1 arg
object box
object box
start 0 0 go 5
start 1 0 none -7"""
LINES = len(MODEL.split("\n"))


def run(*commands, run_line="run 0,1 100 1 eager"):
    return run_console("\n".join((MODEL, run_line) + commands))


def not_possible(number):
    """Returns what the command with the number, counted from 1, prints if it is not possible."""
    return f"line {LINES + 1 + number} is not possible"


class CommandTest(unittest.TestCase):
    def test_the_documented_run(self):
        text = DOCUMENTED + "\nrun 0 3 1 lazy\nstep 0\nstep 0\nshow states"
        self.assertEqual(run_console(text), ["line 10 is not possible", "5"])

    def test_no_commands(self):
        self.assertEqual(run(), [])
        self.assertEqual(run(""), [])

    def test_acts_print_nothing(self):
        self.assertEqual(run("step 0", "double 0", "move 0", "deliver 1", "step 1", "hop", "calm"), [])

    def test_step(self):
        self.assertEqual(run("step 0", "show states"), ["1 -6", "0 -1"])
        self.assertEqual(run("step 1", "step 0", "step 0", "step 0"), [not_possible(1), not_possible(4)])

    def test_letters(self):
        first = "event 0 1 0 0 0 0 2 1 0 0 go -4"
        self.assertEqual(run("show net", "step 0", "show net"), [first])
        # Object 1 first processes the copy; letter 1 0 0 is what it sends.
        self.assertEqual(run("step 0", "double 0", "deliver 0", "step 1", "show net"), [
            first, "event 1 0 0 0 1 0 4 0 1 0 go 5"])
        self.assertEqual(run("step 0", "double 0", "deliver 0", "step 1", "move 0", "show net"), [
            "event 1 0 0 0 1 0 4 0 1 0 go 5", first])
        self.assertEqual(run("step 0", "double 0", "double 0", "show net"), [first] * 3)

    def test_antis_are_shown(self):
        model = MODEL.replace("start 1 0 none -7", "start 3 1 go 0")
        text = model + "\nrun 0,1 100 1 {}\nstep 1\nstep 0\nhop\nmove 0\ndeliver 0\nshow net"
        late = "event 1 0 0 0 1 0 5 0 1 0 go 1"
        self.assertEqual(run_console(text.format("lazy")), [late])
        self.assertEqual(run_console(text.format("eager")), [late, "anti 1 0 1 0 1 0 5 0 1 0 go 1"])

    def test_hop_and_token(self):
        self.assertEqual(run("show token", "hop", "show token", "hop", "show token", "hop", "show token"), [
            "1 0 10 0", "1 0 0 0", "2 0 10 0", "2 0 0 0"])
        self.assertEqual(run("step 0", "hop", "show token", "hop", "show token"), ["1 1 1 0", "1 0 10 0"])

    def test_calm_and_committed(self):
        self.assertEqual(run("show committed", "calm", "show committed"), [
            "0 0 -1 0 go 5", "1 0 -1 1 none -7", "2 1 0 0 go -4", "4 0 1 0 go 5", "6 1 0 1 go -4", "8 0 1 1 go 5"])
        self.assertEqual(run("calm", "show states"), ["3 -16", "2 -1"])

    def test_horizons_kept_and_done(self):
        self.assertEqual(run("show horizons", "show kept", "show done", "calm", "show horizons", "show kept", "show done"),
                         ["0 0", "0 0", "no", "10 10", "1 1", "yes"])
        self.assertEqual(run("step 0", "step 0", "show kept", run_line="run 0,2 100 1 lazy"), ["2 0 0"])
        self.assertEqual(run("show horizons", "show kept", run_line="run 0,0 100 1 lazy"), ["0", "0"])

    def test_the_window_and_the_interval(self):
        self.assertEqual(run("step 0", "step 0", run_line="run 0,1 1 1 lazy"), [not_possible(2)])
        self.assertEqual(run("step 0", "step 0", "step 0", run_line="run 0,1 2 1 lazy"), [not_possible(3)])
        for interval, kept in ((1, "1 1"), (2, "2 2"), (3, "1 2"), (8, "4 2")):
            self.assertEqual(run("calm", "show kept", run_line=f"run 0,1 1000 {interval} eager"), [kept])

    def test_the_same_as_the_acts_of_a_world(self):
        for seed in range(40):
            chance = random.Random(seed)
            model = crowded_model(chance) if seed % 2 else random_model(chance)
            settings = random_settings(chance, model)
            text = model_text(model) + "\n" + self.run_line(*settings)
            with self.subTest(seed=seed):
                self.check_acts(chance, World(model, *settings), text)

    def run_line(self, placing, window, interval, lazy):
        return f"run {','.join(map(str, placing))} {window} {interval} {'lazy' if lazy else 'eager'}"

    def check_acts(self, chance, world, text):
        lines = text.split("\n")
        expected = []
        weights = chance.choice(WEIGHTS)
        for _ in range(80):
            act = random_act(chance, world, weights)
            lines.append(" ".join(map(str, act)))
            try:
                world.act(act)
            except BadAct:
                expected.append(f"line {len(lines)} is not possible")
            self.show_all(world, lines, expected)
        self.assertEqual(run_console("\n".join(lines)), expected)

    def show_all(self, world, lines, expected):
        lines += ["show net", "show token", "show states", "show committed", "show kept", "show horizons", "show done"]
        for source, receiver, number, turn, kind, mark, event in world.net():
            expected.append(f"{kind} {source} {receiver} {number} {turn} {mark[0]} {mark[1]} " + " ".join(map(str, event)))
        rows = [world.token()] + world.states() + world.committed() + [world.kept(), world.horizons()]
        expected += [" ".join(map(str, row)) for row in rows]
        expected.append("yes" if world.done() else "no")

    def test_a_whole_run(self):
        for seed in range(20):
            model = random_model(random.Random(seed))
            text = f"{model_text(model)}\nrun {','.join('0' for _ in model[1])} 1000 3 lazy\ncalm\ncalm\nshow committed"
            self.assertEqual(run_console(text), [" ".join(map(str, event)) for event in run_plain(model).history()])


class WrongCommandTest(unittest.TestCase):
    def check_not_possible(self, *commands):
        for command in commands:
            with self.subTest(command=command):
                found = run("step 0", command, "show net", "show token", "show states")
                self.assertEqual(found, [
                    not_possible(2), "event 0 1 0 0 0 0 2 1 0 0 go -4", "1 0 10 0", "1 -6", "0 -1"])

    def test_acts_that_are_not_possible(self):
        self.check_not_possible("step 1", "step 2", "step 999999", "deliver 1", "double 1", "move 1", "deliver 999999")

    def test_lines_that_are_no_commands(self):
        self.check_not_possible(
            "stop", "steps 0", "Step 0", "HOP", "hop 0", "calm 1", "calm calm", "show", "show all", "show Net", "show net 0",
            "show committed states", "step", "deliver", "double", "move", "step 0 0", "deliver 0 0", "move 0 0", "0", "done",
            "run", "run 0,1 100 1 eager", "end 9", "object box", "skip", "step zero", "step arg", "step 0,1", "shownet")

    def test_blanks(self):
        self.check_not_possible(
            " ", "  ", "\t", "\r", " hop", "hop ", "hop\r", "hop\t", "deliver  0", " deliver 0", "deliver 0 ", "deliver\t0",
            "show  net", "show net ", " show net", "calm ", " calm", " #", " # more", "hop # more", "deliver 0 # more")

    def test_integers(self):
        for word in ("00", "01", "000000", "0000000", "0000001", "1000000", "0" * 5000, "1" * 5000, "-0", "-1", "+0", "0.0",
                     "0x0", "0_0", "", "\u0660", "\u00b2", "\uff10", "0\u0660", "True", "None", "(0)", ".0", "0."):
            self.check_not_possible(*[f"{command} {word}" for command in ("deliver", "double", "move")])
            self.assertEqual(run(f"step {word}", "show kept"), [not_possible(1), "0 0"])

    def test_six_digits_are_a_number_and_seven_are_none(self):
        # A net that has letters with such indexes would be too large for a test.
        self.assertEqual(integer_or_none("999999"), 999999)
        self.assertIsNone(integer_or_none("1000000"))

    def test_a_large_index(self):
        commands = ["step 0"] + ["double 0"] * 10000 + ["move 10001", "move 10000", "move 0010"]
        self.assertEqual(run(*commands), [not_possible(10002), not_possible(10004)])

    def test_the_numbers_of_lines(self):
        found = run("stop", "", "# stop", "stop", "#", "", "", "hop", "stop", "show done", "stop", "")
        self.assertEqual(found, [not_possible(1), not_possible(4), not_possible(9), "no", not_possible(11)])

    def test_empty_lines_and_remarks(self):
        self.assertEqual(run("", "#", "# step 0", "#step 0", "##", "#run 0 1 1 lazy", "", "show states", ""), ["0 -1", "0 -1"])


class WrongTextTest(unittest.TestCase):
    def check_bad(self, *texts):
        for text in texts:
            with self.subTest(text=text), self.assertRaises(BadModel):
                run_console(text)

    def check_bad_run_lines(self, *lines):
        self.check_bad(*["\n".join((MODEL, line, "show done")) for line in lines])

    def test_no_strings(self):
        text = MODEL + "\nrun 0,1 100 1 eager"
        self.check_bad(None, 0, True, text.encode(), [text], text.split("\n"), (text,), {}, (), [])

    def test_no_run_line(self):
        self.check_bad("", "\n", MODEL, MODEL + "\n", MODEL + "\nshow done", MODEL + "\nhop\ncalm", MODEL + "\n# run 0,1 100 1 lazy",
                       MODEL + "\nrun0,1 100 1 lazy", MODEL + "\nRUN 0,1 100 1 lazy", MODEL + "\n run 0,1 100 1 lazy",
                       MODEL + "\nruns 0,1 100 1 lazy", MODEL + "\nrun\t0,1 100 1 lazy")

    def test_the_model_is_not_right(self):
        line = "\nrun 0,1 100 1 eager\nshow done"
        self.check_bad(line, line[1:], "\n" + MODEL + line, MODEL + "\n" + line, MODEL + " " + line, "# model\n" + MODEL + line,
                       MODEL + "\n#" + line, MODEL.replace("end 9", "end 1001") + line, MODEL.replace("arg", "argh") + line,
                       MODEL.replace("end 9", "end 09") + line, MODEL + "\nstart 1 2 go 1" + line, MODEL.upper() + line,
                       MODEL + "\nhop" + line, MODEL.replace("kind", "\nkind") + line)

    def test_the_first_run_line_counts(self):
        good = "run 0,1 100 1 eager"
        self.check_bad("\n".join((good, MODEL, good)), "\n".join((MODEL, "run", good)), "\n".join((MODEL, "run 0,1", good)),
                       MODEL.replace("on go", "run go\non go") + "\n" + good, "\n".join((MODEL, "run  0,1 100 1 eager", good)))
        self.assertEqual(run(good, "show done"), [not_possible(1), "no"])

    def test_the_words_of_the_run_line(self):
        self.check_bad_run_lines(
            "run", "run ", "run 0,1", "run 0,1 100", "run 0,1 100 1", "run 0,1 100 1 eager ", "run 0,1 100 1 eager lazy",
            "run 0,1 100 1  eager", "run  0,1 100 1 eager", "run 0,1  100 1 eager", "run 0,1 100  1 eager",
            "run 0,1 100 1 eager\t", "run 0,1 100 1 eager\r", "run 0,1\t100 1 eager", "run 0, 1 100 1 eager",
            "run 0 1 100 1 eager", "run 100 0,1 1 eager", "run eager 0,1 100 1")

    def test_the_mode(self):
        for mode in ("", "Eager", "LAZY", "lazy,", "true", "True", "False", "0", "1", "eage", "eagerly", "None"):
            self.check_bad_run_lines(f"run 0,1 100 1 {mode}")

    def test_the_placing(self):
        for placing in ("", "0", "0,", ",1", ",", "0,1,", ",0,1", "0,,1", "0,1,0", "0;1", "0,8", "8,0", "0,-1", "0,01", "00,1",
                        "0,+1", "0,1.", "0,a", "0,\u0661", "0,1000000", "(0,1)", "0,0x1", "0," + "1" * 5000, "01"):
            self.check_bad_run_lines(f"run {placing} 100 1 eager")
        for placing, many in (("0,0", 1), ("1,0", 2), ("0,7", 8), ("7,7", 8)):
            self.assertEqual(run("show kept", run_line=f"run {placing} 100 1 eager"), [" ".join(["0"] * many)])

    def test_the_window_of_the_run_line(self):
        for window in ("0", "1001", "999999", "1000000", "0100", "00", "-1", "+5", "", "5.", "five", "\u0665", "1" * 5000):
            self.check_bad_run_lines(f"run 0,1 {window} 1 eager")
        for window in ("1", "9", "10", "1000"):
            self.assertEqual(run("show done", run_line=f"run 0,1 {window} 1 lazy"), ["no"])

    def test_the_interval_of_the_run_line(self):
        for interval in ("0", "9", "10", "999999", "1000000", "01", "-1", "+5", "", "5.", "five", "\u0665", "1" * 5000):
            self.check_bad_run_lines(f"run 0,1 100 {interval} eager")
        for interval in ("1", "2", "8"):
            self.assertEqual(run("show done", run_line=f"run 0,1 100 {interval} lazy"), ["no"])

    def test_a_newline_at_the_end(self):
        self.assertEqual(run_console(MODEL + "\nrun 0,1 100 1 lazy\n"), [])
        self.assertEqual(run_console(MODEL + "\nrun 0,1 100 1 lazy\nshow done\n\n"), ["no"])

    def test_the_model_is_that_of_the_text(self):
        self.assertEqual(model_text(parse_model(MODEL)), MODEL)


if __name__ == "__main__":
    unittest.main()
