import copy
import random
import unittest

from given import AHEAD, APART, MOST, STEPS, own_rules, ways_of_all_kinds, with_parts
from movedrows.errors import ParseError
from movedrows.rules import named_rules
from movedrows.texts import format_rules, format_way, format_weaving, parse_rules, parse_way, parse_weaving

OVER, KEY, ROW = named_rules("over"), named_rules("key"), named_rules("row")

# The lines that a text can have at each index, told a second time; those of a weaving are the same at each one.
WAY_LINES = [{f"{word} {value}" for value in values} for word, values in (
    ("lanes", (1, 2)), ("first", (0, 1)), ("lag", (1, 2, 3)), ("marks", (0, 1, 2)), ("slips", (0, 1)), ("press", (0, 1)),
    ("wipe", (0, 1, 2, 3)), ("picture", (0, 1, 2)), ("peeks", (0, 1)))]
ACTIONS = ("leave", "lay", "move", "drop", "both", "other")
RULES_WORDS = [f"{kind} {own} {other}" for kind in ("strike", "row", "absent")
               for own in ("empty", "elder", "fresh") for other in ("empty", "elder", "fresh")]
RULES_LINES = [{f"{words} {action}" for action in ACTIONS} for words in RULES_WORDS]
STEP_LINES = {" ".join(map(str, step)): step for step in STEPS}

WEAVING = (
    ("change", 1), ("take", 0), ("slip", 1), ("mark", 0), ("fall", 1), ("press", 0, 12), ("wipe", 1, 0), ("picture",),
    ("look", 2), ("look", 1), ("end",), ("peek", 1), ("change", 0), ("press", 1, 999))
WAY_TEXT = "lanes 2\nfirst 0\nlag 1\nmarks 0\nslips 0\npress 0\nwipe 0\npicture 0\npeeks 0\n"


def expected_line(lines_at, text):
    """Return the line that ParseError should tell for a text, or None if its lines are those that can be there.

    lines_at(index) are the lines that can be there; whether there are enough of them is not told here.
    """
    lines = text.split("\n")
    for index, line in enumerate(lines[:-1]):
        if line not in lines_at(index):
            return index
    return None if lines[-1] == "" else len(lines) - 1


def at_most(lines):
    """Return lines_at for a text with just these lines."""
    return lambda index: lines[index] if index < len(lines) else ()


def changed_texts(text):
    """Return texts that differ from one: lines left out, doubled, exchanged, changed, cut, and much else."""
    lines = text.split("\n")[:-1]
    texts = ["", "\n", "\n" + text, text + "\n", text[:-1], text + text, text + " ", text + "x", text + lines[0]]
    texts += [text.upper(), text.replace("\n", "\r\n"), text.replace("\n", "\r"), text.replace(" ", "  "),
              text.replace(" ", "\t"), text.replace(" ", "\u00a0"), text.replace("\n", "\n\n"), " " + text]
    for index in range(len(lines)):
        line = lines[index]
        head, tail = lines[:index], lines[index + 1:]
        for other in ([], [line, line], [line, ""], [line + " "], [" " + line], [line[:-1]], [line + "0"], ["x"], [""],
                      [line + "\r"], [line.replace(" ", "")], [line.title()], [line + " 0"], [line.split(" ")[0]],
                      [line.replace(" ", " 0", 1)], [line.replace(" ", " -", 1)], [line.replace(" ", " +", 1)],
                      [line.translate({48: "\u0660", 49: "\u0661", 50: "\u0662"})], [line + "\u2028"], [line + "\x0b"],
                      [line.translate({48: "\u00b2", 49: "\u00b2", 50: "\u00b2"})], ["-" + line]):
            texts.append("".join(each + "\n" for each in head + other + tail))
        # Cut within the line, with and without a line end.
        for at in range(len(line) + 1):
            cut = "".join(each + "\n" for each in head) + line[:at]
            texts += [cut, cut + "\n"]
        if tail:
            texts.append("".join(each + "\n" for each in head + [tail[0], line] + tail[1:]))
    return texts


class Texts(unittest.TestCase):
    def assert_fails(self, parse, text, line):
        with self.assertRaises(ParseError) as caught:
            parse(text)
        self.assertEqual(caught.exception.line, line)
        self.assertIs(type(caught.exception.line), int)
        with self.assertRaises(ParseError):
            parse(text=text)

    def assert_round(self, write, name, parse, value, text=None):
        kept = copy.deepcopy(value)
        written = write(value)
        self.assertIs(type(written), str)
        self.assertEqual(write(**{name: value}), written)
        self.assertEqual(value, kept)
        if text is not None:
            self.assertEqual(written, text)
        read = parse(written)
        self.assertEqual(read, value)
        self.assertIs(type(read), tuple)
        for part in read:
            self.assertNotIsInstance(part, bool)
        self.assertEqual(parse(text=written), value)


class Ways(Texts):
    def test_by_hand(self):
        self.assert_round(format_way, "way", parse_way, APART, WAY_TEXT)
        text = "lanes 1\nfirst 1\nlag 3\nmarks 2\nslips 1\npress 1\nwipe 3\npicture 2\npeeks 1\n"
        self.assert_round(format_way, "way", parse_way, (1, 1, 3, 2, 1, 1, 3, 2, 1), text)

    def test_all_kinds(self):
        for way in ways_of_all_kinds():
            self.assert_round(format_way, "way", parse_way, way)

    def test_each_value_and_those_beside(self):
        for part in range(9):
            for value in range(10):
                way = with_parts(AHEAD, {part: value})
                least, greatest = (1 if part in (0, 2) else 0), (2 if part == 0 else MOST[part])
                text = format_way(way)
                if least <= value <= greatest:
                    self.assertEqual(parse_way(text), way)
                else:
                    self.assert_fails(parse_way, text, part)

    def test_texts_that_are_none(self):
        for way in (APART, AHEAD, (2, 1, 3, 2, 1, 1, 3, 2, 1)):
            for text in changed_texts(format_way(way)):
                with self.subTest(text=text):
                    line = expected_line(at_most(WAY_LINES), text)
                    if line is None and text.count("\n") < 9:
                        line = text.count("\n")
                    if line is None:
                        self.assertEqual(format_way(parse_way(text)), text)
                    else:
                        self.assert_fails(parse_way, text, line)

    def test_faults_by_hand(self):
        self.assert_fails(parse_way, "", 0)
        self.assert_fails(parse_way, "lanes 2", 0)
        self.assert_fails(parse_way, "lanes 2\n", 1)
        self.assert_fails(parse_way, "lanes 2\nfirst 2\n", 1)
        self.assert_fails(parse_way, "lanes 3\nfirst 2\n", 0)
        self.assert_fails(parse_way, "lanes 2\nfirst 2", 1)
        self.assert_fails(parse_way, WAY_TEXT[:-1], 8)
        self.assert_fails(parse_way, WAY_TEXT + "x", 9)
        self.assert_fails(parse_way, WAY_TEXT + "\n", 9)
        self.assert_fails(parse_way, WAY_TEXT + "x\nx\n", 9)
        self.assert_fails(parse_way, WAY_TEXT + WAY_TEXT, 9)
        self.assert_fails(parse_way, WAY_TEXT.replace("\n", "\r\n"), 0)
        self.assert_fails(parse_way, WAY_TEXT.replace("lag 1", "lag 01"), 2)
        self.assert_fails(parse_way, WAY_TEXT.replace("lag 1", "lag +1"), 2)
        self.assert_fails(parse_way, WAY_TEXT.replace("wipe 0", "wipe -0"), 6)
        self.assert_fails(parse_way, WAY_TEXT.replace("wipe 0", "wipe 00"), 6)
        self.assert_fails(parse_way, "x" * 20000, 0)
        self.assert_fails(parse_way, "\n" * 20000, 0)
        self.assert_fails(parse_way, WAY_TEXT + "x" * 19000, 9)
        self.assert_fails(parse_way, "lanes " + "1" * 19000 + "\n", 0)


class Rules(Texts):
    def test_the_lines(self):
        for rules in (OVER, KEY, ROW, own_rules(1), own_rules(2)):
            text = "".join(f"{words} {ACTIONS[action]}\n" for words, action in zip(RULES_WORDS, rules))
            self.assert_round(format_rules, "rules", parse_rules, rules, text)

    def test_all_27_rules_with_each_action(self):
        for index in range(27):
            for action in range(6):
                rules = with_parts(ROW, {index: action})
                self.assertEqual(
                    format_rules(rules).split("\n")[index], f"{RULES_WORDS[index]} {ACTIONS[action]}")
                self.assert_round(format_rules, "rules", parse_rules, rules)

    def test_the_line_of_the_document(self):
        lines = format_rules(ROW).split("\n")
        self.assertEqual(lines[12], "row elder empty move")
        self.assertIn("row empty elder move", lines)
        self.assertEqual(lines.index("row empty elder move"), 10)

    def test_texts_that_are_none(self):
        text = format_rules(own_rules(4))
        for changed in changed_texts(text):
            with self.subTest(text=changed):
                line = expected_line(at_most(RULES_LINES), changed)
                if line is None and changed.count("\n") < 27:
                    line = changed.count("\n")
                if line is None:
                    self.assertEqual(format_rules(parse_rules(changed)), changed)
                else:
                    self.assert_fails(parse_rules, changed, line)

    def test_faults_by_hand(self):
        text = format_rules(OVER)
        self.assert_fails(parse_rules, "", 0)
        self.assert_fails(parse_rules, text[:-1], 26)
        self.assert_fails(parse_rules, text + "\n", 27)
        self.assert_fails(parse_rules, text + "absent", 27)
        self.assert_fails(parse_rules, text.replace("row elder fresh lay", "row elder fresh put"), 14)
        self.assert_fails(parse_rules, text.replace("row elder fresh lay", "row elder fresh lay "), 14)
        self.assert_fails(parse_rules, text.replace("row elder fresh lay", "row elder fresh 1"), 14)
        self.assert_fails(parse_rules, text.replace("row elder fresh lay\n", ""), 14)
        self.assert_fails(parse_rules, text.replace("row elder fresh", "row fresh elder"), 14)


class Weavings(Texts):
    def test_by_hand(self):
        text = "change 1\ntake 0\nslip 1\nmark 0\nfall 1\npress 0 12\nwipe 1 0\npicture\nlook 2\nlook 1\nend\npeek 1\n"
        text += "change 0\npress 1 999\n"
        self.assert_round(format_weaving, "weaving", parse_weaving, WEAVING, text)

    def test_the_empty_text(self):
        self.assert_round(format_weaving, "weaving", parse_weaving, (), "")

    def test_each_step_alone(self):
        for line, step in STEP_LINES.items():
            self.assertEqual(format_weaving((step,)), line + "\n")
            self.assertEqual(parse_weaving(line + "\n"), (step,))

    def test_drawn_weavings(self):
        made = random.Random(3)
        for many in (1, 2, 30, 1000):
            self.assert_round(format_weaving, "weaving", parse_weaving, tuple(made.choice(STEPS) for _ in range(many)))

    def test_a_long_one(self):
        weaving = (("end",),) * 5000
        self.assert_round(format_weaving, "weaving", parse_weaving, weaving, "end\n" * 5000)
        self.assert_fails(parse_weaving, "end\n" * 4999 + "ende", 4999)
        self.assert_fails(parse_weaving, "end\n" * 4998 + "ene\nend\n", 4998)

    def test_texts_that_are_none(self):
        for changed in changed_texts(format_weaving(WEAVING)):
            with self.subTest(text=changed):
                line = expected_line(lambda index: STEP_LINES, changed)
                if line is None:
                    self.assertEqual(format_weaving(parse_weaving(changed)), changed)
                else:
                    self.assert_fails(parse_weaving, changed, line)

    def test_lines_that_are_no_steps(self):
        for line in (
                "", " ", "change", "change 3", "change -1", "change 1 1", "change 01", "change 1 ", " change 1", "Change 1",
                "take", "take 2", "take 00", "take 0 0", "take +0", "slip 2", "mark 2", "fall 2", "press 0", "press 0 1000",
                "press 0 0999", "press 2 0", "press 0 -1", "press 0  1", "press 0 1 2", "wipe 0 1000", "wipe 2 0",
                "wipe 1 00", "wipe\t1 0", "picture 0", "picture ", "look", "look 0", "look 3", "end 0", "end 1", "peek 0",
                "peek 3", "table", "undo", "lanes 2", "press 0 1e1", "press 0 1_0",
                "press 0 x", "take x", "press 0 0x1", "press 0 \u0661", "press 0 \u00b2",
                "press 0 " + "1" * 5000, "press 0 " + "0" * 5000, "take 0\r", "take\r0", "take 0\x0c", "take 0\u2028",
                "take 0\x1e", "change 1;take 0", "change 1,take 0", "('change', 1)", "0", "None", "True"):
            with self.subTest(line=line[:30]):
                self.assert_fails(parse_weaving, line + "\n", 0)
                self.assert_fails(parse_weaving, "change 1\ntake 0\n" + line + "\nend\n", 2)
                if line:
                    self.assert_fails(parse_weaving, "change 1\ntake 0\n" + line, 2)

    def test_faults_by_hand(self):
        self.assert_fails(parse_weaving, "\n", 0)
        self.assert_fails(parse_weaving, "end", 0)
        self.assert_fails(parse_weaving, "end\n\n", 1)
        self.assert_fails(parse_weaving, "end\nen", 1)
        self.assert_fails(parse_weaving, "end\nno\nnor\n", 1)
        self.assert_fails(parse_weaving, "no\nend", 0)
        self.assert_fails(parse_weaving, "end\r\nend\r\n", 0)

    def test_steps_are_read_whether_they_can_be_done_or_not(self):
        self.assertEqual(parse_weaving("take 1\nend\nchange 0\n"), (("take", 1), ("end",), ("change", 0)))


class Examples(unittest.TestCase):
    def test_the_example(self):
        self.assertEqual(
            format_weaving((("change", 1), ("press", 0, 1), ("picture",))), "change 1\npress 0 1\npicture\n")
        self.assertEqual(format_way((2, 0, 1, 0, 0, 0, 0, 0, 0))[:16], "lanes 2\nfirst 0\n")


if __name__ == "__main__":
    unittest.main()
