import unittest

from latchgrove.deeds.puts import planted
from latchgrove.errors import NoPrograms, NoText, NoTree
from latchgrove.hands.steps import are_programs
from latchgrove.pages.trees import empty, is_tree
from latchgrove.words.texts import programs_text, read_programs, read_tree, tree_text
from tests.helpers import ANYTHING, Drawn, outcome, random_deed, random_tree, tree_of

TOP = 10 ** 9
WIDE = tree_of(3, 9, {1: (0, 10, 20), 2: (30, 40), 3: (50, 60)}, {9: (1, 2, 3)})
TEXT = "3 9 / 1 leaf 2 0:0 10:10 20:20 / 2 leaf 3 30:30 40:40 / 3 leaf 0 50:50 60:60 / 9 node 1 30 2 50 3"
PROGRAMS = ((("find", 0), ("put", 15, 5)), (), (("drop", TOP), ("span", 0, TOP + 1), ("walk", 7, 8)))
ROWS = "find 0 , put 15 5 ; - ; drop 1000000000 , span 0 1000000001 , walk 7 8"
NO_TEXTS = tuple(thing for thing in ANYTHING if type(thing) is not str) + (b"3 1 / 1 leaf 0", b"-", ("-",), ["-"], 5)


def written_tree(tree):
    """By [33], sign by sign."""
    text = str(tree[0]) + " " + str(tree[1])
    for number, (kind, first, second) in tree[2]:
        text += " / " + str(number) + " " + kind
        if kind == "leaf":
            text += " " + str(second) + "".join(" " + str(key) + ":" + str(value) for key, value in first)
        else:
            for at, kid in enumerate(second):
                text += (" " + str(first[at - 1]) if at else "") + " " + str(kid)
    return text


def written_programs(programs):
    rows = []
    for row in programs:
        rows.append(" , ".join(" ".join(map(str, deed)) for deed in row) if row else "-")
    return " ; ".join(rows)


def broken_in_signs(text):
    """The text with each sign left out, twice, exchanged with the next one, and another one."""
    for at, sign in enumerate(text):
        yield text[:at] + text[at + 1:]
        yield text[:at] + sign + text[at:]
        yield text[:at] + text[at + 1:at + 2] + sign + text[at + 2:]
        for other in "019 :/,;-+_.x\t\n\u0660\xa0":
            yield text[:at] + other + text[at + 1:]
    for more in (" ", "\n", "0", " 0", "/", " /", " / ", " ; -", " ;", " ,", "-"):
        yield text + more
        yield more + text


def broken_in_words(text):
    words = text.split(" ")
    for at, word in enumerate(words):
        for others in ([], [word, word], ["0"], ["-1"], ["+1"], ["01"], ["00"], ["1_0"], ["1.0"], ["0x1"], ["1" * 41], ["9" * 40],
                       ["0" + word], ["-" + word], ["leaf"], ["node"], ["Leaf"], ["find"], ["Find"], ["look"], ["/"], [":"], [","],
                       [";"], ["-"], [""], ["1:1"], ["1:1:1"], [":1"], ["1:"], ["True"], ["None"], ["\u0661"], ["\xb2"]):
            yield " ".join(words[:at] + others + words[at + 1:])
        yield " ".join(words[:at] + words[at + 1:at + 2] + [word] + words[at + 2:])
        yield " ".join(words[:at])
        yield " ".join(words[at:])


class TreeTextTest(unittest.TestCase):
    def test_written_out(self):
        self.assertEqual(tree_text(WIDE), TEXT)
        self.assertEqual(read_tree(TEXT), WIDE)
        for room in range(3, 9):
            self.assertEqual(tree_text(empty(room=room)), f"{room} 1 / 1 leaf 0")
            self.assertEqual(read_tree(f"{room} 1 / 1 leaf 0"), empty(room=room))
        self.assertEqual(tree_text((8, 10 ** 6, ((10 ** 6, ("leaf", ((0, TOP), (TOP, 0)), 0)),))),
                         "8 1000000 / 1000000 leaf 0 0:1000000000 1000000000:0")

    def test_there_and_back(self):
        draw = Drawn(151)
        for turn in range(60):
            tree = random_tree(draw, 3 + turn % 6, 1 + turn % 3, 10 ** 9)
            text = tree_text(tree)
            self.assertEqual(text, written_tree(tree))
            self.assertEqual(read_tree(text), tree)
            self.assertEqual(tree_text(tree), text)
        tree = planted(tuple((key, key) for key in range(900)))
        self.assertEqual(read_tree(tree_text(tree)), tree)

    def test_each_sign_and_word_otherwise(self):
        draw = Drawn(152)
        trees = [WIDE, empty(), tree_of(3, 1, {1: (10, 20)}), random_tree(draw, 4, 2, 60)]
        right = wrong = 0
        for tree in trees:
            text = tree_text(tree)
            for other in list(broken_in_signs(text)) + list(broken_in_words(text)):
                told = outcome(read_tree, other)
                if told == ("raised", NoText):
                    wrong += 1
                else:
                    # It is a text of a tree, then, perhaps of another one.
                    self.assertEqual(told[0], "told", other)
                    self.assertIs(is_tree(told[1]), True)
                    self.assertEqual(written_tree(told[1]), other)
                    right += 1
        self.assertGreater(wrong, 3000)
        self.assertGreater(right, 20)

    def test_no_text_of_a_tree(self):
        for text in ("", " ", "3", "3 1", "3 1 /", "3 1 / ", "3 1 / 1", "3 1 / 1 leaf", "3 1 / 1 leaf ", "3 1 / 1 leaf 0 ",
                     " 3 1 / 1 leaf 0", "3  1 / 1 leaf 0", "3 1 /  1 leaf 0", "3 1/ 1 leaf 0", "3 1 / 1 leaf 0 / ", "3\t1 / 1 leaf 0",
                     "3 1 / 1 leaf 0\n", "3 1 / 01 leaf 0", "03 1 / 1 leaf 0", "+3 1 / 1 leaf 0", "3 1 / 1 leaf -0", "2 1 / 1 leaf 0",
                     "9 1 / 1 leaf 0", "3 0 / 0 leaf 0", "3 2 / 1 leaf 0", "3 1 / 1 leaf 1", "3 1 / 1 leaf 00", "3 1 / 1 node 2",
                     "3 1 / 1 leaf 0 2:1 1:1", "3 1 / 1 leaf 0 1:1 1:1", "3 1 / 1 leaf 0 1:1 2:2 3:3 4:4", "3 1 / 1 leaf 0 1",
                     "3 1 / 1 leaf 0 1:", "3 1 / 1 leaf 0 :1", "3 1 / 1 leaf 0 1:1:1", "3 1 / 1 leaf 0 01:1", "3 1 / 1 leaf 0 1:01",
                     "3 1 / 1 leaf 0 1 : 1", "3 1 / 1 leaf 0 1000000001:1", "3 1 / 1 leaf 0 1:1000000001", "3 1 / 1 LEAF 0",
                     "3 1 4 / 1 leaf 0", "3 1 1 leaf 0", "3 9 / 9 node 1 30 2 / 1 leaf 2 1:1 2:2 / 2 leaf 0 30:1 40:1",
                     "3 9 / 1 leaf 2 1:1 2:2 / 2 leaf 0 30:1 40:1 / 9 node 1 30", "3 9 / 1 leaf 2 1:1 2:2 / 2 leaf 0 30:1 40:1 / 9 node",
                     "3 1 / 1 leaf " + "0" * 40, "3 1 / 1 leaf 0 " + "1" * 41 + ":1", "\u0663 1 / 1 leaf 0", "1" * 5000 + " 1 / 1 leaf 0",
                     "3 1 / 1 leaf 0 1:" + "9" * 40, "3 1 / 1 leaf 0 1:" + "9" * 5000):
            self.assertEqual(outcome(read_tree, text), ("raised", NoText), text)

    def test_things_that_are_no_texts(self):
        for thing in NO_TEXTS:
            self.assertEqual(outcome(read_tree, thing), ("raised", NoText))
        for thing in ANYTHING:
            self.assertEqual(outcome(read_tree, thing), ("raised", NoText))
            self.assertEqual(outcome(tree_text, thing), ("raised", NoTree))
        self.assertEqual(outcome(tree_text, list(WIDE)), ("raised", NoTree))
        self.assertEqual(outcome(tree_text, TEXT), ("raised", NoTree))


class ProgramsTextTest(unittest.TestCase):
    def test_written_out(self):
        self.assertEqual(programs_text(PROGRAMS), ROWS)
        self.assertEqual(read_programs(ROWS), PROGRAMS)
        for many in range(1, 7):
            self.assertEqual(programs_text(((),) * many), " ; ".join(["-"] * many))
            self.assertEqual(read_programs(" ; ".join(["-"] * many)), ((),) * many)
        self.assertEqual(programs_text(((("find", 3),),)), "find 3")

    def test_there_and_back(self):
        draw = Drawn(153)
        for turn in range(200):
            programs = tuple(tuple(random_deed(draw, draw.choice((9, TOP))) for _ in range(draw.randint(0, 8)))
                             for _ in range(draw.randint(1, 6)))
            text = programs_text(programs)
            self.assertEqual(text, written_programs(programs))
            self.assertEqual(read_programs(text), programs)

    def test_each_sign_and_word_otherwise(self):
        right = wrong = 0
        for programs in (PROGRAMS, ((("find", 12),),), ((),), ((), (("put", 0, 0),)), ((("span", 5, 6), ("drop", 10)), ())):
            text = programs_text(programs)
            for other in list(broken_in_signs(text)) + list(broken_in_words(text)):
                told = outcome(read_programs, other)
                if told == ("raised", NoText):
                    wrong += 1
                else:
                    self.assertEqual(told[0], "told", other)
                    self.assertIs(are_programs(told[1]), True)
                    self.assertEqual(written_programs(told[1]), other)
                    right += 1
        self.assertGreater(wrong, 2000)
        self.assertGreater(right, 20)

    def test_no_text_of_programs(self):
        for text in ("", " ", "--", "- ", " -", "- -", "-;-", "- ;-", "-; -", "- ; ", " ; -", "- ; ; -", "- , -", "find", "find ", "find 1 ",
                     " find 1", "find  1", "find 01", "find +1", "find -1", "find 1 2", "put 1", "put 1 2 3", "drop", "span 5 5", "span 5",
                     "walk 6 5", "walk 5 1000000002", "find 1000000001", "put 1 1000000001", "look 1", "FIND 1", "Find 1", "find 1,find 2",
                     "find 1 ,find 2", "find 1 , ", " , find 1", "find 1 , , find 2", "find 1 , -", "- , find 1", "find 1 ; find 2 ;",
                     "find 1\n", "find\t1", "find 1 . find 2", " ; ".join(["-"] * 7), " , ".join(["find 1"] * 9), "find " + "1" * 41,
                     "find " + "1" * 40, "find " + "1" * 5000, "find \u0661", "find \xb9", "find None", "find 1:1", "find x", "find 1.0"):
            self.assertEqual(outcome(read_programs, text), ("raised", NoText), text)
        self.assertEqual(read_programs(" ; ".join([" , ".join(["find 1"] * 8)] * 6)), ((("find", 1),) * 8,) * 6)

    def test_things_that_are_no_texts(self):
        for thing in NO_TEXTS:
            self.assertEqual(outcome(read_programs, thing), ("raised", NoText))
        for thing in ANYTHING:
            self.assertEqual(outcome(read_programs, thing), ("raised", NoText))
            if repr(thing) != "((), ())":
                self.assertEqual(outcome(programs_text, thing), ("raised", NoPrograms))
        for thing in ((), ((),) * 7, ((("find", 1),) * 9,), [()], ROWS):
            self.assertEqual(outcome(programs_text, thing), ("raised", NoPrograms))
