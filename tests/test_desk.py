"""A desk: lines of text and their answers (34 to 39)."""

import random
import unittest

from helper import EMPTY, file, folder, plain_twin, refusal, some_call
from snapshelf.deeds import is_deed
from snapshelf.desk import Desk
from snapshelf.plainshelf import PlainShelf
from snapshelf.sent import sent_of, written_deed, written_sent
from snapshelf.tally import tally_of
from snapshelf.things import room_of
from snapshelf.viewtexts import told_view

SETUP = (
    "house h 50", "folder h a", "file h a/b", "put h a/b 0 1 2", "put h a/b 1", "put h a/b 2 255", "file h c", "snap h s", "put h c 0 7",
)


def desk_of(*lines, places=60, once=True):
    """A desk behind these lines, all of which are done."""
    desk = Desk(places, once)
    for line in lines:
        if desk.say(line) != "done":
            raise AssertionError(line)
    return desk


class DeskTest(unittest.TestCase):

    def said(self, desk, *pairs):
        """Each line of the pairs has the answer beside it."""
        for line, answer in pairs:
            self.assertEqual(desk.say(line), answer, line)


class DeedLinesTest(DeskTest):

    def test_each_line(self):
        desk = Desk(60, True)
        self.said(
            desk, ("house h 50", "done"), ("folder h a", "done"), ("file h a/b", "done"), ("put h a/b 0 1 2", "done"), ("put h a/b 1", "done"),
            ("tell h", "folder a\nfile a/b leaf 1 2 leaf\n"), ("snap h s", "done"), ("trim h a/b 1", "done"), ("move h a/b c", "done"),
            ("copy h c a/d", "done"), ("tell h", "folder a\nfile a/d leaf 1 2\nfile c leaf 1 2\n"), ("out h a", "done"),
            ("tell h", "file c leaf 1 2\n"), ("clone s i 10", "done"), ("tell i", "folder a\nfile a/b leaf 1 2 leaf\n"), ("back h s", "done"),
            ("tell h", "folder a\nfile a/b leaf 1 2 leaf\n"), ("rebound h 5", "done"),
            ("names", "h house 5\ns snap h\ni house 10\n"), ("drop h", "done"), ("names", "s snap h\ni house 10\n"), ("check", "right"),
        )

    def test_refusals(self):
        desk = desk_of(*SETUP)
        self.said(
            desk, ("house h 5", "no Taken"), ("house s 5", "no Taken"), ("folder x a", "no NoHouse"), ("folder s a", "no NoHouse"),
            ("folder h a", "no Taken"), ("folder h q/a", "no NoThing"), ("put h a 0 1", "no NoThing"), ("put h a/b 4 1", "no NoLeaf"),
            ("trim h a/b 4", "no NoLeaf"), ("out h q", "no NoThing"), ("move h a a/c", "no Within"), ("move h a c", "no Taken"),
            ("snap x y", "no NoHouse"), ("snap h s", "no Taken"), ("back x s", "no NoHouse"), ("back h h", "no NoSnap"),
            ("clone h x 5", "no NoSnap"), ("clone s h 5", "no Taken"), ("clone s x 1", "no NoRoom"), ("drop x", "no NoEntry"),
            ("rebound s 5", "no NoHouse"), ("rebound h 7", "no NoRoom"), ("tell x", "no NoEntry"), ("room x", "no NoEntry"),
            ("alone x", "no NoEntry"), ("sent x h", "no NoEntry"), ("sent h x", "no NoEntry"), ("lay x ", "no NoHouse"), ("open x a", "no NoEntry"),
            ("open h a", "no NoThing"), ("open h q", "no NoThing"), ("read 1", "no NotOpen"), ("close 1", "no NotOpen"),
        )
        for name in "bdefgijkl":
            desk.say(f"house {name} 5")
        self.said(desk, ("house z 5", "done"), ("house y 5", "no TooMany"), ("snap h y", "no TooMany"), ("clone s y 50", "no TooMany"))
        for name in "bdefgh":
            desk.say(f"folder h {name}")
        self.said(desk, ("folder h z", "no TooMany"), ("copy h a h/a", "done"), ("copy h a z", "no TooMany"))
        desk.say("folder h b/a")
        for number in range(3):
            desk.say("move h b d/a")
            desk.say("folder h b")
            desk.say("move h d b/a")
            desk.say("folder h d")
        self.said(desk, ("move h b d/b", "no TooDeep"))

    def test_full(self):
        desk = Desk(8, False)
        self.said(desk, *[(f"house {name} 50", "done") for name in "abcdefgh"])
        self.said(desk, ("house i 5", "no Full"), ("folder a x", "no Full"), ("folder x a", "no NoHouse"), ("drop h", "done"), ("house i 5", "done"))

    def test_as_a_shelf_of_views(self):
        for seed in range(6):
            source = random.Random(seed)
            desk, plain = Desk(120, seed % 2 == 0), PlainShelf()
            for number in range(120):
                call = some_call(source, plain)
                if call[0] != "do":
                    self.check_line(desk, plain, call, " ".join(str(part) for part in call))
                for deed in call[2] if call[0] == "do" else ():
                    if is_deed(deed):
                        words = written_deed(deed).split(" ")
                        self.check_line(desk, plain, ("do", call[1], [deed]), " ".join([words[0], call[1]] + words[1:]))
                self.assertEqual(desk.say("check"), "right")
            self.check_questions(desk, plain)

    def check_line(self, desk, plain, call, line):
        answer = desk.say(line)
        if answer == "no Full":
            self.assertIsNone(refusal(getattr(plain_twin(plain), call[0]), *call[1:]))
            return
        why = refusal(getattr(plain, call[0]), *call[1:])
        self.assertEqual(answer, "done" if why is None else f"no {why}", line)

    def check_questions(self, desk, plain):
        names = [entry[0] for entry in plain.entries()]
        self.assertEqual(desk.say("names"), "".join(" ".join(str(part) for part in entry) + "\n" for entry in plain.entries()))
        for name in names:
            self.assertEqual(desk.say(f"tell {name}"), told_view(plain.view(name)))
            self.assertEqual(desk.say(f"room {name}"), str(room_of(plain.view(name))))
            self.assertEqual(desk.say(f"alone {name}"), str(len(desk.shelf.alone(name))))
            for other in names:
                self.assertEqual(desk.say(f"sent {name} {other}"), written_sent(sent_of(plain.view(name), plain.view(other))))


class QuestionsTest(DeskTest):

    def test_of_nothing(self):
        desk = Desk(8, True)
        self.said(desk, ("names", ""), ("check", "right"), ("house h 5", "done"), ("tell h", ""), ("room h", "1"), ("alone h", "1"))
        self.said(desk, ("sent h h", "sent 1;1"))

    def test_room_and_alone(self):
        desk = desk_of(*SETUP)
        self.said(desk, ("room h", "8"), ("room s", "7"))
        # The house alone holds its own folder, the file c and its leaf; the snapshot its folder and the empty file.
        self.said(desk, ("alone h", "3"), ("alone s", "2"), ("drop s", "done"), ("alone h", "8"))

    def test_sent_and_lay(self):
        desk = desk_of(*SETUP, "clone s i 50")
        first, second = desk.shelf.view("s"), desk.shelf.view("h")
        text = f"sent {tally_of(first)};put c 0 7;{tally_of(second)}"
        self.said(desk, ("sent s h", text), ("sent i h", text), (f"lay i {text}", "done"), ("sent i h", f"sent {tally_of(second)};{tally_of(second)}"))
        self.said(desk, (f"lay i {text}", "no Other"), (f"lay s {text}", "no NoHouse"), (f"lay x {text}", "no NoHouse"))
        self.said(desk, (f"lay i {desk.say('sent i s')}", "done"), ("tell i", desk.say("tell s")))

    def test_lay_with_what_is_none(self):
        desk = desk_of(*SETUP)
        text = desk.say("sent h s")
        for bad in ("", " ", text + " ", " " + text, text + "\n", text.replace(";", " ; "), "sent", "sent 1", "x", "names", "sent 01;1"):
            self.said(desk, (f"lay h {bad}", "no NoSent"), (f"lay x {bad}", "no NoHouse"))
        self.said(desk, ("rebound h 8", "done"))
        large = folder(a=folder(b=file((1, 2), (), (255,))), c=file((7,), (8,)))
        self.said(desk, ("lay h " + written_sent(sent_of(desk.shelf.view("h"), large)), "no NoRoom"))
        self.said(desk, ("lay h sent 1;1", "no Other"))

    def test_lay_is_full(self):
        desk = desk_of("house h 500", places=20)
        large = folder(a=file(*[(at,) for at in range(40)]))
        self.said(desk, ("lay h " + written_sent(sent_of(EMPTY, large)), "no Full"))

    def test_open_read_close(self):
        desk = desk_of(*SETUP)
        told = "leaf 1 2\nleaf\nleaf 255\n"
        self.said(
            desk, ("open h a/b", "1"), ("open s c", "2"), ("read 1", told), ("read 2", ""), ("put h a/b 0 9", "done"), ("open h a/b", "3"),
            ("read 1", told), ("read 3", "leaf 9\nleaf\nleaf 255\n"), ("drop h", "done"), ("drop s", "done"), ("read 1", told), ("close 1", "done"),
            ("read 1", "no NotOpen"), ("close 1", "no NotOpen"), ("read 3", "leaf 9\nleaf\nleaf 255\n"), ("read 0", "no NotOpen"),
            ("close 1000000", "no NotOpen"), ("open h a/b", "no NoEntry"), ("names", ""), ("check", "right"),
        )


class CutTest(DeskTest):

    def test_each_group(self):
        for line in ("put h c 0 9", "house x 5", "snap h x", "back h s", "clone s x 50", "drop s", "rebound h 40"):
            for kept, due in (
                ("0", "ahead"), ("0 0", "ahead"), ("0 1 0 3 2", "ahead"), ("0 0 1 2 3 4 5 6 7 8 9", "ahead"), ("1", "ahead"), ("1 0", "ahead"),
                ("1 1", "ahead"), ("1 1 0", "ahead"), ("1 0 1 2 1000", "ahead"), ("2", "ahead"), ("2 0", "behind"), ("2 1", "behind"),
                ("2 1 0", "behind"), ("2 0 1", "behind"), ("2 2", "ahead"), ("2 1000 999", "ahead"), ("2 7 1 8", "behind"),
            ):
                desk = desk_of(*SETUP)
                self.said(desk, (f"cut {kept} ; {line}", due))
                like = desk_of(*SETUP) if due == "ahead" else desk_of(*SETUP, line)
                for each in ("names", "tell h", "tell s", "tell x", "check", "room h"):
                    self.said(desk, (each, like.say(each)))
                self.said(desk, ("again", "done"), ("names", like.say("names")), (line, like.say(line)), ("check", "right"))

    def test_lay(self):
        desk = desk_of(*SETUP)
        line = "lay h " + desk.say("sent h s")
        self.said(desk, (f"cut 2 ; {line}", "ahead"), (f"cut 2 1 ; {line}", "behind"), ("tell h", desk.say("tell s")))
        self.said(desk, (f"cut 2 1 ; {line}", "no Other"), ("cut 0 ; lay h ", "no NoSent"), ("cut 0 ; lay h a ; b", "no NoSent"))

    def test_a_line_that_is_refused_or_does_no_steps_answers_as_itself(self):
        desk = desk_of(*SETUP)
        self.said(desk, ("open h a/b", "1"))
        for line, due in (
            ("house h 5", "no Taken"), ("put h c 0 7", "done"), ("rebound h 50", "done"), ("drop x", "no NoEntry"), ("folder x a", "no NoHouse"),
            ("lay h ", "no NoSent"), ("back h x", "no NoSnap"), ("out h q", "no NoThing"), ("trim h c 1", "done"),
        ):
            self.said(desk, (f"cut 2 0 ; {line}", due), ("read 1", "leaf 1 2\nleaf\nleaf 255\n"))
        self.said(desk, ("open h c", "2"))

    def test_nothing_is_open_behind_it(self):
        for kept in ("0", "2 0"):
            desk = desk_of(*SETUP)
            self.said(desk, ("open h c", "1"), ("open h c", "2"))
            self.assertIn(desk.say(f"cut {kept} ; house x 5"), ("ahead", "behind"))
            self.said(desk, ("read 1", "no NotOpen"), ("close 2", "no NotOpen"), ("open h c", "1"))

    def test_what_is_open_is_not_written_over_by_it(self):
        desk = desk_of("house h 50", "file h a", "put h a 0 1", "put h a 1 2", places=8, once=False)
        self.said(desk, ("open h a", "1"), ("out h a", "done"))
        self.assertEqual([desk.say(f"folder h {name}") for name in "abcd"], ["done", "done", "done", "no Full"])
        self.said(desk, ("cut 0 ; folder h h", "no Full"), ("read 1", "leaf 1\nleaf 2\n"), ("close 1", "done"), ("cut 0 ; folder h h", "ahead"))

    def test_no_disk_ahead_of_all_that_the_line_refuses(self):
        desk = desk_of(*SETUP)
        self.said(desk, ("open h c", "1"))
        generation = desk.shelf.generation()
        for copy in (0, 1):
            desk.say(f"rot {copy} {generation % 2}")
        for line in ("drop s", "drop x", "house h 5", "put h c 0 7", "lay x ", "folder x a"):
            self.said(desk, (f"cut 2 0 ; {line}", "no NoDisk"))
        self.said(desk, ("read 1", "leaf 7\n"), ("names", "h house 50\ns snap h\n"), ("cut 2 0 ; x", "no NoWord"))
        # A deed writes a root anew.
        self.said(desk, ("drop s", "done"), ("cut 2 0 ; house x 5", "behind"), ("names", "h house 50\nx house 5\n"))

    def test_no_disk_where_there_is_no_root(self):
        desk = desk_of(*SETUP)
        for copy in (0, 1):
            desk.say(f"rot {copy} 0")
            desk.say(f"rot {copy} 1")
        self.said(desk, ("cut 1 ; drop x", "no NoDisk"), ("names", "h house 50\ns snap h\n"))

    def test_no_disk_where_the_ledger_is_gone(self):
        desk = desk_of(*SETUP)
        for copy in (0, 1):
            desk.say(f"rot {copy} {2 + desk.shelf.generation() % 2}")
        self.said(desk, ("cut 2 0 1 ; drop s", "no NoDisk"))

    def test_where_one_copy_is_gone(self):
        desk = desk_of(*SETUP)
        for spot in range(64):
            desk.say(f"rot {spot % 2} {spot}")
        self.said(desk, ("cut 0 0 ; drop s", "ahead"), ("names", "h house 50\ns snap h\n"), ("cut 2 1 ; drop s", "behind"), ("names", "h house 50\n"))

    def test_a_hurt_shelf(self):
        desk = desk_of(*SETUP)
        place = desk.shelf.roots()[0]
        self.said(desk, (f"rot 0 {3 + place}", "done"), (f"rot 1 {3 + place}", "done"), ("cut 0 ; drop s", "ahead"))
        self.said(desk, ("cut 0 ; drop s", "no Lost"), ("cut 2 0 ; house h 5", "no Lost"), ("drop x", "no Lost"))

    def test_long_rows(self):
        for seed in range(4):
            source = random.Random(seed)
            desk, plain = Desk(80, seed % 2 == 0), PlainShelf()
            for number in range(120):
                call = some_call(source, plain)
                if call[0] == "do":
                    continue
                behind = plain_twin(plain)
                why = refusal(getattr(behind, call[0]), *call[1:])
                kept = " ".join(str(each) for each in source.sample(range(12), source.randint(0, 6)))
                words = ["cut", str(source.randrange(3))] + [kept] * (kept != "") + [";"] + [str(part) for part in call]
                answer = desk.say(" ".join(words))
                if answer in ("behind", "done"):
                    plain = behind
                elif answer != "ahead":
                    self.assertEqual(answer, f"no {why}")
                self.assertEqual(desk.shelf.entries(), plain.entries())
                self.said(desk, ("check", "right"))


class RotTest(DeskTest):

    def test_rot(self):
        desk = desk_of(*SETUP, places=20)
        for copy in (0, 1):
            for spot in (0, 1, 2, 3, 4, 23):
                self.said(desk, (f"rot {copy} {spot}", "done"))
                self.assertIsNone(desk.disk.cell(copy, spot))
            self.said(desk, (f"rot {copy} 24", "no NoWord"), (f"rot {copy} 400", "no NoWord"))
        self.assertIsNotNone(desk.disk.cell(0, 5))

    def test_each_kind_of_spot_in_one_copy(self):
        whole = desk_of(*SETUP)
        generation = whole.shelf.generation()
        spots = [generation % 2, 2 + generation % 2] + [3 + place for place in whole.shelf.blocks()]
        for copy in (0, 1):
            desk = desk_of(*SETUP)
            for spot in spots:
                self.said(desk, (f"rot {copy} {spot}", "done"))
            self.said(desk, ("again", "done"), ("tell h", whole.say("tell h")), ("check", "right"), ("mend", ""))
            for spot in spots:
                self.assertEqual(desk.disk.cell(copy, spot), whole.disk.cell(copy, spot))
                self.said(desk, (f"rot {1 - copy} {spot}", "done"))
            self.said(desk, ("again", "done"), ("tell h", whole.say("tell h")), ("names", whole.say("names")))

    def test_blocks_in_both_copies(self):
        desk = desk_of(*SETUP, "house i 5")
        blocks = desk.shelf.blocks()
        leaf = [place for place in blocks if blocks[place] == (0, 1, 2)][0]
        for copy in (0, 1):
            self.said(desk, (f"rot {copy} {3 + leaf}", "done"), (f"rot {copy} {3 + desk.shelf.roots()[2]}", "done"))
        # What rots is met when the shelf is opened anew.
        self.said(desk, ("check", "right"), ("open h a/b", "1"), ("again", "done"), ("check", "wrong"), ("read 1", "no NotOpen"))
        self.said(desk, ("mend", "h a/b\ns a/b\ni \n"), ("check", "wrong"), ("names", "h house 50\ns snap h\ni house 5\n"))
        for line in ("tell h", "room s", "alone h", "sent h h", "sent i h", "open h a/b", "tell i", "open i a", "house x 5", "house h 5", "drop x",
                     "folder x a", "snap x y", "back x y", "clone x y 5", "rebound x 5", "lay x ", "put h c 0 1"):
            self.said(desk, (line, "no Lost"))
        for line in ("tell x", "room x", "alone x", "sent x h", "sent h x", "open x a"):
            self.said(desk, (line, "no NoEntry"))
        self.said(desk, ("open h c", "1"), ("read 1", "leaf 7\n"), ("open h q", "no NoThing"), ("again", "done"), ("open h c", "1"))

    def test_mend_with_lost_paths_of_several_entries(self):
        desk = desk_of(*SETUP)
        for copy in (0, 1):
            for place in desk.shelf.roots():
                desk.say(f"rot {copy} {3 + place}")
        self.said(desk, ("mend", "h \ns \n"))

    def test_behind_again_and_mend_nothing_is_open(self):
        for line, due in (("again", "done"), ("mend", "")):
            desk = desk_of(*SETUP)
            self.said(desk, ("open h c", "1"), ("open h c", "2"), (line, due), ("read 1", "no NotOpen"), ("close 2", "no NotOpen"), ("open h c", "1"))

    def test_a_refused_again_or_mend(self):
        desk = desk_of(*SETUP)
        self.said(desk, ("open h c", "1"))
        for spot in range(4):
            self.said(desk, (f"rot 0 {spot}", "done"), (f"rot 1 {spot}", "done"))
        for line in ("again", "mend"):
            self.said(desk, (line, "no NoDisk"), ("read 1", "leaf 7\n"), ("names", "h house 50\ns snap h\n"), ("check", "right"))
        self.said(desk, ("put h c 0 8", "done"), ("tell h", "folder a\nfile a/b leaf 1 2 leaf leaf 255\nfile c leaf 8\n"), ("again", "done"))
        self.said(desk, ("tell h", "folder a\nfile a/b leaf 1 2 leaf leaf 255\nfile c leaf 8\n"), ("read 1", "no NotOpen"))

    def test_the_root_gone_opens_the_elder_one(self):
        desk = desk_of(*SETUP)
        for copy in (0, 1):
            desk.say(f"rot {copy} {desk.shelf.generation() % 2}")
        self.said(desk, ("tell h", "folder a\nfile a/b leaf 1 2 leaf leaf 255\nfile c leaf 7\n"), ("again", "done"))
        self.said(desk, ("tell h", "folder a\nfile a/b leaf 1 2 leaf leaf 255\nfile c\n"), ("check", "right"))

    def test_the_ledger_gone_and_on(self):
        desk = desk_of(*SETUP)
        for copy in (0, 1):
            desk.say(f"rot {copy} {2 + desk.shelf.generation() % 2}")
        self.said(desk, ("again", "done"), ("cut 1 0 1 ; drop s", "ahead"), ("names", "h house 50\ns snap h\n"), ("cut 2 1 ; drop s", "behind"))
        self.said(desk, ("names", "h house 50\n"), ("check", "right"))


if __name__ == "__main__":
    unittest.main()
