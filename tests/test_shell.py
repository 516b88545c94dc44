"""A shell: promises 17.1 to 17.3."""

import itertools
import random
import re

from lengthstell.book.desks import Desk
from lengthstell.book.promises import does_hold, is_paper_against
from lengthstell.count.counts import count_rank
from lengthstell.errors import FrameError, InvalidFrame, InvalidNumber, InvalidOperation, NothingToUndo, Refused, TooMany, UnknownName
from lengthstell.frame.frames import Frame
from lengthstell.text import shell as shell_module
from lengthstell.text.formats import read_data, read_frame, write_frame
from lengthstell.text.shell import Shell
from tests.examples import EIGHT, FOUR, KITE, SINGLE, WHEEL, pairs, random_frame
from tests.refusals import WRONG, Refusals, is_frame, told

# For each line that begins so the kinds of its further pieces.
ROWS = (
    "show", "rod R", "no rod R", "no pin A", "pin A", "pin A A", "pin A A A", "pin A A A A A A A A A A", "promises", "undo", "undo N", "lot", "end",
    "cancel", "count S",
) + tuple(f"{word} {promise}" for word in ("promise", "drop", "ask", "why") for promise in ("firm S", "told S", "spare R S", "few N"))
GOOD = {
    "A": ("a", "e", "zz", "abcd"), "R": ("a-b", "b-a", "c-d", "a-zz", "abcd-b"), "S": ("1", "2"),
    "N": ("0", "1", "6", "28", "29", "100", "999"),
}
BAD = {
    "A": ("A", "abcde", "a1", "1", "a-b", "-", "show!"), "R": ("ab", "a-a", "a-", "-a", "a-b-c", "a--b", "A-b", "abcde-a", "a,b", "1-2"),
    "S": ("0", "3", "01", "one", "12", "a"), "N": ("-1", "00", "007", "01", "1000", "1.5", "x", "+1", "1a"),
}


PATTERNS = {"A": "[a-z]{1,4}", "R": r"([a-z]{1,4})-(?!\1$)[a-z]{1,4}", "S": "[12]", "N": "0|[1-9][0-9]{0,2}"}


def stands(kind, piece):
    """Whether a piece is of a kind, or the word itself."""
    return re.fullmatch(PATTERNS.get(kind, kind), piece) is not None


def wrong_at(pieces):
    """The index of the first piece that cannot stand, by all rows; None if the pieces are a line."""
    best = 0
    for row in ROWS:
        kinds = row.split()
        if pieces[:1] == ["pin"] and kinds[0] == "pin":
            kinds = ["pin"] + ["A"] * max(1, len(pieces) - 1)
        many = 0
        while many < min(len(kinds), len(pieces)) and stands(kinds[many], pieces[many]):
            many += 1
        if many == len(kinds) == len(pieces):
            return None
        best = max(best, many)
    return best


class BesideDesk:
    """A desk and its lot, used as a shell's lines tell."""

    def __init__(self, frame):
        self.desk = Desk(frame)
        self.lot = None

    def frame(self):
        return self.lot.frame if self.lot else self.desk.frame

    def promise(self, pieces):
        if pieces[0] == "spare":
            return ("spare", tuple(sorted(pieces[1].split("-"))), int(pieces[2]))
        return (pieces[0], int(pieces[1]))

    def deed(self, pieces):
        if pieces[0] == "pin":
            return ("pin", pieces[1], tuple(sorted(set(pieces[2:]))))
        if pieces[:2] == ["no", "pin"]:
            return ("no pin", pieces[2])
        return (" ".join(pieces[:-1]), tuple(sorted(pieces[-1].split("-"))))

    def say(self, line):
        """The answer, or a check of it for the lines that have several right ones."""
        pieces = line.split()
        if not pieces:
            return ""
        if wrong_at(pieces) is not None:
            return f"wrong at {wrong_at(pieces)}"
        if pieces[0] in ("end", "cancel") and self.lot is None:
            return "no lot"
        try:
            return self.done(pieces)
        except Refused as error:
            return f"failed {error.reason[2]}" if error.reason[0] == "deed" else "broken " + self.shown(error.reason[1])
        except TooMany:
            return "too many"
        except NothingToUndo:
            return "no more"
        except UnknownName:
            return "unknown"
        except (FrameError, InvalidNumber):
            return "invalid"

    def shown(self, promise):
        return " ".join("-".join(part) if isinstance(part, tuple) else str(part) for part in promise)

    def done(self, pieces):
        word, desk = pieces[0], self.desk
        if word in ("rod", "no", "pin"):
            if self.lot:
                self.lot.add(self.deed(pieces))
                return "taken"
            return f"version {desk.do((self.deed(pieces),))}"
        if word == "show":
            return write_frame(self.frame())
        if word == "promise":
            return "new" if desk.promise(self.promise(pieces[1:])) else "there"
        if word == "drop":
            return f"version {desk.drop(self.promise(pieces[1:]))}"
        if word == "promises":
            return ", ".join(self.shown(promise) for promise in desk.promises) if desk.promises else "none"
        if word == "undo":
            return f"version {desk.undo(*map(int, pieces[1:]))}"
        if word == "lot":
            self.lot = desk.lot()
            return "open"
        if word in ("end", "cancel"):
            lot, self.lot = self.lot, None
            if word == "end":
                return f"version {lot.end()}"
            lot.drop()
            return "dropped"
        if word == "count":
            return str(count_rank(self.frame(), space=int(pieces[1])))
        holds = does_hold(self.frame(), self.promise(pieces[1:]))
        if word == "ask":
            return "yes" if holds else "no"
        return "none" if holds else ("why", self.frame(), self.promise(pieces[1:]))


class ShellTest(Refusals):

    def test_examples(self):
        shell = Shell(FOUR)
        lines = ("ask told 2", "promise told 2", "promise told 2", "no rod b-a", "undo 2", "why few 5", "few 5", "rod a", "rod a-b")
        self.assertEqual(shell.run(lines), (
            "yes", "new", "there", "broken told 2", "no more", "('many', 6)", "wrong at 0", "wrong at 1", "failed there",
        ))
        lines = ("lot", "pin e a b c", "no rod a-b", "undo", "ask told 2", "end", "show", "undo", "end", "promises")
        self.assertEqual(shell.run(lines), (
            "open", "taken", "taken", "invalid", "yes", "version 2", "a b c d e: a-c a-d a-e b-c b-d b-e c-d c-e", "version 1", "no lot", "told 2",
        ))
        self.assertEqual([len(shell), str(shell), shell.frame == FOUR], [19, "shell at version 1, 1 promises", True])
        self.assertEqual((shell_module.MAX_LINE, shell_module.MAX_LINES), (2000, 100))

    def test_new_shells(self):
        shell = Shell(frame=KITE)
        self.assertEqual((shell.frame, shell.promises, shell.version, len(shell), str(shell)), (KITE, (), 0, 0, "shell at version 0, 0 promises"))
        self.check_arguments(Shell, [(KITE, InvalidFrame, is_frame)])
        self.assertRaises(TypeError, iter, shell)

    def check(self, frame, *lines_and_answers):
        """Says each line of a row of lines and answers to a new shell, which is returned."""
        shell = Shell(frame)
        for line, answer in lines_and_answers:
            self.assertEqual(shell.say(line), answer, line)
        return shell

    def test_deeds(self):
        shell = self.check(
            KITE, ("rod d-c", "version 1"), ("show", "a b c d: a-b a-c a-d b-c b-d c-d"), ("no rod b-a", "version 2"),
            ("pin e d a d a", "version 3"), ("show", "a b c d e: a-c a-d a-e b-c b-d c-d d-e"), ("pin zz", "version 4"), ("no pin a", "version 5"),
            ("show", "b c d e zz: b-c b-d c-d d-e"), ("rod a-b", "failed unknown"), ("no rod b-e", "failed missing"), ("pin b", "failed there"),
            ("pin q q", "failed unknown"), ("rod c-b", "failed there"), ("no pin a", "failed unknown"), ("pin b a", "failed unknown"),
        )
        self.assertEqual((shell.version, shell.frame), (5, Frame(("b", "c", "d", "e", "zz"), pairs("bc bd cd de"))))
        self.check(EIGHT, ("pin i a", "failed many"), ("pin a", "failed there"), ("no pin a", "version 1"), ("pin i", "version 2"))
        self.check(SINGLE, ("no pin a", "failed last"), ("no pin b", "failed unknown"))

    def test_promises(self):
        shell = self.check(
            FOUR, ("promises", "none"), ("promise spare d-c 2", "new"), ("promise few 6", "new"), ("promise firm 1", "new"), ("promise spare c-d 2", "there"),
            ("promises", "spare c-d 2, few 6, firm 1"), ("pin e", "broken firm 1"), ("no rod a-b", "broken spare c-d 2"), ("promise few 5", "broken few 5"),
            ("drop few 5", "unknown"), ("drop few 6", "version 4"), ("promises", "spare c-d 2, firm 1"), ("promise told 2", "new"), ("promise spare z-y 1", "broken spare y-z 1"),
            ("no rod d-c", "broken spare c-d 2"), ("undo 3", "version 2"), ("promises", "spare c-d 2, few 6"), ("undo 3", "no more"), ("undo 999", "no more"),
        )
        self.assertEqual((shell.promises, shell.version), ((("spare", ("c", "d"), 2), ("few", 6)), 2))
        lines = [(f"promise few {number}", "new") for number in range(6, 14)]
        self.check(FOUR, *lines, ("promise few 14", "too many"), ("promise few 9", "there"), ("promise few 5", "broken few 5"), ("promises", ", ".join(f"few {n}" for n in range(6, 14))))

    def test_numbers(self):
        self.check(
            FOUR, ("undo 0", "invalid"), ("undo 007", "wrong at 1"), ("undo 00", "wrong at 1"), ("undo 1000", "wrong at 1"), ("undo 999", "no more"), ("undo -1", "wrong at 1"),
            ("undo", "no more"), ("undo 1 1", "wrong at 2"), ("few 6", "wrong at 0"), ("ask few 29", "invalid"), ("ask few 999", "invalid"), ("why few 100", "invalid"),
            ("promise few 29", "invalid"), ("drop few 29", "invalid"), ("ask few 28", "yes"), ("ask few 028", "wrong at 2"), ("ask few 0", "no"), ("drop few 28", "unknown"),
            ("ask firm 3", "wrong at 2"), ("count 0", "wrong at 1"), ("count 2", "5"), ("count 1", "3"), ("count 01", "wrong at 1"),
        )

    def test_questions(self):
        shell = self.check(
            KITE, ("ask firm 2", "yes"), ("ask told 2", "no"), ("ask told 1", "yes"), ("ask spare a-b 2", "no"), ("ask spare b-a 1", "yes"), ("ask few 5", "yes"),
            ("ask few 4", "no"), ("why few 4", "('many', 5)"), ("why few 5", "none"), ("why spare d-c 2", "('away', ('c', 'd'))"), ("why firm 1", "none"),
            ("ask spare y-z 2", "no"), ("why spare y-z 2", "('away', ('y', 'z'))"),
        )
        for line, promise in (("why told 2", ("told", 2)), ("why spare a-b 2", ("spare", ("a", "b"), 2))):
            self.assertIs(is_paper_against(KITE, promise, read_data(shell.say(line))), True)
        self.assertEqual((shell.version, shell.frame), (0, KITE))

    def test_lots(self):
        shell = self.check(
            FOUR, ("promise told 2", "new"), ("end", "no lot"), ("cancel", "no lot"), ("lot", "open"), ("lot", "invalid"), ("no rod a-b", "taken"), ("show", "a b c d: a-c a-d b-c b-d c-d"),
            ("ask told 2", "no"), ("count 2", "5"), ("why few 4", "('many', 5)"), ("no rod a-b", "failed missing"), ("promise firm 1", "invalid"), ("drop told 2", "invalid"),
            ("drop few 3", "invalid"), ("undo", "invalid"), ("undo 0", "invalid"), ("promises", "told 2"), ("promise few 29", "invalid"), ("undo 9", "invalid"), ("end 1", "wrong at 1"),
            ("end", "broken told 2"), ("end", "no lot"), ("show", "a b c d: a-b a-c a-d b-c b-d c-d"), ("lot", "open"), ("pin e a b c", "taken"), ("cancel", "dropped"), ("cancel", "no lot"),
            ("lot", "open"), ("end", "version 1"), ("lot", "open"), ("no rod a-b", "taken"), ("rod b-a", "taken"), ("end", "version 1"), ("lot", "open"), ("pin e d c b", "taken"),
        )
        self.assertEqual((shell.frame, shell.version, str(shell)), (FOUR.with_pin("e", "b", "c", "d"), 1, "shell at version 1, 1 promises"))
        self.assertEqual((shell.say("end"), shell.version, shell.say("undo 2"), shell.promises), ("version 2", 2, "version 0", ()))
        # A lot can take more than twenty deeds.
        shell = Shell(FOUR)
        self.assertEqual(shell.run(("lot",) + ("no rod a-b", "rod a-b") * 15 + ("no rod a-b", "end")), ("open",) + ("taken",) * 31 + ("version 1",))

    def test_lines(self):
        shell = Shell(FOUR)
        self.assertEqual(shell.run(("", " ", " " * 2000, "  show ", "show  ", "  ask   told  2 ")), ("", "", "", write_frame(FOUR), write_frame(FOUR), "yes"))
        self.assertEqual(len(shell), 6)
        long = "show" + " " * 1996
        self.assertEqual((len(long), shell.say(long), shell.say("~" * 2000)), (2000, write_frame(FOUR), "wrong at 0"))
        self.assertEqual(shell.say("pin e" + " a" * 997), "version 1")
        for wrong in ("show" + " " * 1997, "~" * 2001, "show\n", "\tshow", "show\x7f", "a\tb\n", None, 1, True, ("show",), ["show"], b"show"):
            self.refused(InvalidOperation, shell.say, wrong)
        for wrong in WRONG:
            if not isinstance(wrong, str) or "\t" in wrong or len(wrong) > 2000:
                self.refused(InvalidOperation, shell.say, wrong)
        self.assertEqual((len(shell), shell.say(line="show")), (9, write_frame(shell.frame)))

    def test_runs(self):
        shell = Shell(FOUR)
        self.assertEqual(shell.run(()), ())
        self.assertEqual(shell.run(lines=("show",) * 100), (write_frame(FOUR),) * 100)
        self.assertEqual(len(shell), 100)
        for wrong in (("no rod a-b",) * 101, ["no rod a-b"], "show", ("no rod a-b", "a\tb"), ("no rod a-b", None), ("no rod a-b", "x" * 2001), None, {}, (("show",),)):
            self.refused(InvalidOperation, shell.run, wrong)
        for wrong in WRONG:
            if wrong != () and not (isinstance(wrong, tuple) and all(isinstance(line, str) for line in wrong)):
                self.refused(InvalidOperation, shell.run, wrong)
        self.assertEqual((len(shell), shell.frame, shell.version), (100, FOUR, 0))

    def test_pieces_that_cannot_stand(self):
        for row in ROWS:
            kinds = row.split()
            for pieces in itertools.product(*[GOOD.get(kind, (kind,))[:2 if len(kinds) < 5 else 1] for kind in kinds]):
                self.assertIsNone(wrong_at(list(pieces)))
                self.assertFalse(Shell(FOUR).say(" ".join(pieces)).startswith("wrong"), pieces)
                for at, kind in enumerate(kinds):
                    for bad in BAD.get(kind, ("x", "Show", "prom", "1", "a-b", "firms")):
                        spoilt = list(pieces[:at]) + [bad] + list(pieces[at + 1:])
                        if wrong_at(spoilt) is not None:
                            self.assertEqual(Shell(FOUR).say(" ".join(spoilt)), f"wrong at {wrong_at(spoilt)}", spoilt)
                    ahead = list(pieces[:at])
                    if ahead and wrong_at(ahead) is not None:
                        self.assertEqual(Shell(FOUR).say(" ".join(ahead)), f"wrong at {at}")
                if kinds[0] != "pin":
                    longer = list(pieces) + ["a"]
                    self.assertEqual(Shell(FOUR).say(" ".join(longer)), f"wrong at {wrong_at(longer)}")
        self.check(
            FOUR, ("no", "wrong at 1"), ("no lot", "wrong at 1"), ("no rod", "wrong at 2"), ("pin", "wrong at 1"), ("pin A", "wrong at 1"), ("pin e a B", "wrong at 3"), ("rod a-b c-d", "wrong at 2"),
            ("SHOW", "wrong at 0"), ("show show", "wrong at 1"), ("promise", "wrong at 1"), ("promise few", "wrong at 2"), ("why spare a-b", "wrong at 3"), ("why spare a-b 3", "wrong at 3"),
            ("drop spare a-a 2", "wrong at 2"), ("promises now", "wrong at 1"), ("lot open", "wrong at 1"), ("cancel x", "wrong at 1"), ("ask told", "wrong at 2"), ("ask full 2", "wrong at 1"),
            ("rod z-y", "failed unknown"), ("end now", "wrong at 1"),
        )

    def test_a_shell_beside_a_desk(self):
        rng = random.Random(1701)
        heads = set()
        for _ in range(120):
            frame = random_frame(rng, rng.randrange(1, 7))
            shell, beside = Shell(frame), BesideDesk(frame)
            for many in range(40):
                line = self.random_line(rng, beside.frame())
                wanted = beside.say(line)
                before = (told(shell.frame), shell.promises, shell.version)
                found = shell.say(line)
                if isinstance(wanted, tuple):
                    self.assertIs(is_paper_against(wanted[1], wanted[2], read_data(found)), True)
                else:
                    self.assertEqual(found, wanted, line)
                self.assertEqual((shell.frame, shell.promises, shell.version), (beside.frame(), beside.desk.promises, beside.desk.version))
                heads.add(found.split(" ")[0] if found[:1].isalpha() else "")
                if found.split(" ")[0] in ("wrong", "no", "failed", "too", "unknown", "invalid") and line.split()[:1] != ["end"]:
                    self.assertEqual((told(shell.frame), shell.promises, shell.version), before)
            self.assertEqual(len(shell), 40)
            self.assertEqual(str(shell), f"shell at version {shell.version}, {len(shell.promises)} promises")
        self.assertLessEqual({"wrong", "failed", "broken", "no", "unknown", "invalid", "open", "taken", "dropped", "new", "there", "yes", "version"}, heads)

    def random_line(self, rng, frame):
        names = frame.pins + ("zz", "q")
        pieces = rng.choice(ROWS + ("rod R",) * 6 + ("no rod R",) * 6 + ("pin A A",) * 3 + ("lot", "end", "end", "undo", "undo")).split()
        for at, kind in enumerate(pieces):
            if kind == "A":
                pieces[at] = rng.choice(names)
            elif kind == "R":
                pieces[at] = "-".join(rng.sample(names, 2)) if rng.random() < 0.4 or not frame.rods else "-".join(rng.choice(frame.rods)[::rng.choice((1, -1))])
            elif kind == "S":
                pieces[at] = rng.choice("12")
            elif kind == "N":
                pieces[at] = str(rng.choice((0, 1, 2, 3, 5, 8, 15, 28, 29)))
        if rng.random() < 0.06:
            pieces.insert(rng.randrange(len(pieces) + 1), rng.choice(("x-", "show", "abcde", "1")))
        return (" " * rng.randrange(1, 3)).join(pieces)

    def test_names_that_are_any(self):
        for kind in GOOD:
            self.assertTrue(all(stands(kind, piece) for piece in GOOD[kind]))
            self.assertFalse(any(stands(kind, piece) for piece in BAD[kind]))
        shell = Shell(WHEEL)
        self.assertEqual(read_frame(shell.say("show")), WHEEL)
        self.assertEqual(shell.say("pin abcd e a e"), "version 1")
        self.assertEqual(read_frame(shell.say("show")), WHEEL.with_pin("abcd", "a", "e"))

    def test_shells_share_nothing(self):
        one, other = Shell(FOUR), Shell(FOUR)
        frame, promises = one.frame, one.promises
        one.run(("promise told 2", "lot", "pin e a b c"))
        self.assertEqual((other.frame, other.promises, other.version, len(other)), (FOUR, (), 0, 0))
        self.assertEqual((told(frame), promises), (told(FOUR), ()))
        other.run(("lot", "cancel", "no rod a-b"))
        self.assertEqual((one.version, one.frame), (1, FOUR.with_pin("e", "a", "b", "c")))
        before = told(KITE)
        Shell(KITE).run(("rod c-d", "no pin a"))
        self.assertEqual(told(KITE), before)
