"""The desk: 9.3, and what 0.2 says of it."""

import unittest

from matepoint import errors
from matepoint.desk import Desk
from matepoint.house import House
from matepoint.judge import judged
from matepoint.texts import book_text, offer_text
from tests.drawn import Draw, do, is_refused
from tests.things import deep_things, odd_things

TOP = "1000000000"
ANN = "give ann bread rye price=7 10 4 0 100 | any"
BOB = "take bob bread - - 4 1 0 100 | is rye"
DAN = "take dan bread - - 6 1 3 50 | any"
CAT = "bear cat wood - - 6 1 0 20 | any"
WORDS = ("house", "come", "off", "change", "less", "wait", "to", "would", "row", "now", "book", "left", "end", "rest",
         "judge")
# what is right but for the house that isn't there yet
LINES = [f"come 5 {ANN}", "off 5 ann", f"change 5 {ANN}", "less 5 ann 3", "wait 5 ann 90", "to 5", f"would 5 {ANN}",
         "row", "now", "book", "left 0", "end 0", "rest", "judge\n", "judge\nout 5 0"]


class DeskCase(unittest.TestCase):
    def desk(self, *lines):
        """A desk that was told the lines."""
        desk = Desk()
        for line in lines:
            desk.say(line)
        return desk

    def check(self, desk, *said):
        """Hold that the desk answers each line as told behind it."""
        for line, answer in said:
            with self.subTest(line):
                told = desk.say(line)
                self.assertEqual(told, answer)
                self.assertIs(type(told), str)

    def refuse(self, desk, line, refusal, name=None):
        """Hold that the line is refused, and tell the refusal."""
        with self.subTest(name or repr(line)):
            with self.assertRaises(errors.MateError) as caught:
                desk.say(line)
            self.assertIs(type(caught.exception), refusal)
            return caught.exception


class HouseLineTest(DeskCase):
    def test_rules_kinds_and_quiet_times(self):
        for rule, borne, quiet, made_of in (
                ("-", "-", "-", ((), (), ())),
                ("heavy", "wood", "3-7", (("heavy",), ("wood",), ((3, 7),))),
                ("heavy,great,soon", "a,b,c,abcdefgh", "0-1,3-7,8-" + TOP,
                 (("heavy", "great", "soon"), ("a", "b", "c", "abcdefgh"), ((0, 1), (3, 7), (8, 10 ** 9))))):
            desk = Desk()
            self.check(desk, (f"house {rule} {borne} {quiet}", "ok"), ("now", "none"), ("row", "none"), ("book", ""),
                       ("rest", "none"), ("judge\n", "right"))
            self.assertEqual((desk.house.rule, desk.house.borne, desk.house.quiet), made_of)

    def test_a_new_house_instead_of_the_old_one(self):
        desk = self.desk("house - - -", f"come 5 {ANN}")
        self.check(desk, ("now", "5"), ("house soon - -", "ok"), ("now", "none"), ("book", ""), ("row", "none"),
                   (f"come 3 {ANN}", f"come 3 0 {ANN}"))

    def test_bad_rule_leaves_the_house(self):
        desk = self.desk("house - - -", f"come 5 {ANN}")
        book = desk.say("book")
        for line in ("house light - -", "house heavy,heavy - -", "house heavy,great,small,soon - -", "house any - -",
                     "house - any -", "house - a,a -", "house - a,b,c,d,e -", "house - abcdefghi -", "house - - 7-3",
                     "house - - 3-3", "house - - 3-7,7-9", "house - - 3-7,1-2", "house - heavy,or -",
                     "house - - 0-1,2-3,4-5,6-7,8-9,10-11,12-13,14-15,16-17", "house light any 7-3"):
            self.refuse(desk, line, errors.BadRule)
            self.refuse(Desk(), line, errors.BadRule)
            self.assertEqual(desk.say("book"), book)
        self.check(desk, ("row", "0"), ("now", "5"))

    def test_no_line(self):
        desk = self.desk("house - - -", f"come 5 {ANN}")
        for line in (
                "house", "house ", "house -", "house - -", "house - - ", "house - - - ", "house - - - -",
                " house - - -", "house  - - -", "house -  - -", "house - -  -", "House - - -", "houses - - -",
                "house - - -\n", "house\n- - -", "house - -\n-", "house\n", "house Heavy - -", "house heavy, - -",
                "house ,heavy - -", "house heavy,,soon - -", "house , - -", "house h1 - -", "house -- - -",
                "house heavy,- - -", "house 7 - -", "house heavy;soon - -", "house - Bread -", "house - bread, -",
                "house - a,,b -", "house - a=1 -", "house - - 3", "house - - 3-", "house - - -7", "house - - --",
                "house - - 3-7,", "house - - ,3-7", "house - - 3-7,-", "house - - 3-7-9", "house - - 3--7",
                "house - - a-b", "house - - 03-7", "house - - 3-07", "house - - 3:7", "house - - 3,7",
                "house - - 3-7,,8-9", "house - - 3-1000000001", "house - - 3-+7", "house - - 1000000001-3",
                "house - - 3-7 8-9", "house heavy soon - -", "house - - (3-7)", "house light - 03-7", "house - any 3"):
            self.refuse(desk, line, errors.NoLine)
            self.refuse(Desk(), line, errors.NoLine)
        self.check(desk, ("row", "0"))

    def test_numbers_of_quiet_times_may_have_ten_figures(self):
        self.check(Desk(), (f"house - - 0-{TOP}", "ok"))
        self.refuse(Desk(), "house - - 3-99999999999", errors.NoLine)
        self.refuse(Desk(), "house - - 3-" + "9" * 5000, errors.NoLine)


class NoHouseTest(DeskCase):
    def test_all_but_house_lines_while_there_is_no_house(self):
        desk = Desk()
        for line in LINES + ["come 5 x", "would 5 x", "judge\nx", "left 9"]:
            self.refuse(desk, line, errors.NoLine)
        self.refuse(desk, "house light - -", errors.BadRule)
        for line in LINES:
            self.refuse(desk, line, errors.NoLine)
        self.check(desk, ("house - - -", "ok"), (f"come 5 {ANN}", f"come 5 0 {ANN}"))

    def test_two_desks_have_nothing_in_common(self):
        self.desk("house - - -")
        self.refuse(Desk(), "row", errors.NoLine)


class DeedLineTest(DeskCase):
    def test_each_deed_and_its_answer(self):
        self.check(
            Desk(), ("house - wood 10-20", "ok"),
            (f"come 0 {ANN}", f"come 0 0 {ANN}"),
            (f"come 1 {BOB}", f"come 1 1 {BOB}\nmeet 1 4 0 1"),
            ("less 2 ann 5", "less 2 ann 5"),
            ("wait 3 ann 30", "wait 3 ann 30"),
            (f"come 12 {DAN}", f"come 12 2 {DAN}"),
            (f"come 12 {CAT}", f"come 12 3 {CAT}"),
            ("to 19", "none"),
            ("to 25", "out 20 3\nmeet 20 5 0 2"),
            (f"change 25 {DAN}", f"change 25 4 {DAN}"),
            ("off 26 dan", "off 26 dan"),
            (f"come 27 {DAN}", f"come 27 5 {DAN}"),
            (f"come 60 {ANN}", f"out 50 5\ncome 60 6 {ANN}"),
            ("to 60", "none"),
            ("to 100", "out 100 6"),
            ("now", "100"))

    def test_rows_ahead_of_each_deed(self):
        first = [f"come 1 {ANN}", f"come 2 {DAN}"]
        rows = "meet 20 6 0 1\n"
        for line, answer in (
                (f"come 20 {BOB}", f"{rows}come 20 2 {BOB}\nmeet 20 4 0 2"), ("off 20 ann", f"{rows}off 20 ann"),
                (f"change 21 {ANN}", f"{rows}change 21 2 {ANN}"), ("less 22 ann 1", f"{rows}less 22 ann 1"),
                ("wait 99 ann 101", f"{rows}wait 99 ann 101"), ("to 99", rows[:-1])):
            self.check(self.desk("house - - 0-20", *first), (line, answer))

    def test_would(self):
        desk = self.desk("house - - 10-20", f"come 10 {ANN}", f"come 10 {DAN}")
        before = desk.say("book")
        for again in range(2):
            self.check(desk, (f"would 15 {BOB}", f"come 15 2 {BOB}"),
                       (f"would 20 {BOB}", f"meet 20 6 0 1\ncome 20 2 {BOB}\nmeet 20 4 0 2"),
                       ("now", "10"), ("book", before))

    def test_needless_brackets_are_not_written(self):
        desk = self.desk("house - - -")
        loose = "give ann bread - - 9 1 0 100 | ( ( any ) )"
        tight = "come 5 0 give ann bread - - 9 1 0 100 | any"
        self.check(desk, (f"would 5 {loose}", tight), (f"come 5 {loose}", tight), ("book", tight))

    def test_refusals_of_deeds(self):
        desk = self.desk("house - - -", f"come 5 {ANN}")
        late = BOB.replace("100", "7")
        for line, refusal in (
                (f"come 4 {BOB}", errors.BadTime), (f"come 5 {ANN}", errors.HasName),
                (f"come 7 {late}", errors.TooLate), (f"change 4 {ANN}", errors.BadTime),
                (f"change 7 {BOB}", errors.NoName), (f"would 6 {BOB}", errors.BadTime),
                (f"would 7 {ANN}", errors.HasName), (f"would 7 {late}", errors.TooLate), ("off 6 ann", errors.BadTime),
                ("off 7 bob", errors.NoName), ("less 7 bob 1", errors.NoName), ("less 7 ann 0", errors.BadMany),
                ("less 7 ann 10", errors.BadMany), (f"less 7 ann {TOP}", errors.BadMany),
                ("wait 7 ann 7", errors.TooLate), ("wait 7 ann 0", errors.TooLate), ("wait 7 bob 9", errors.NoName),
                ("wait 6 ann 9", errors.BadTime), ("to 6", errors.BadTime),
                (f"change 8 {ANN.replace('100', '8')}", errors.TooLate)):
            now = int(desk.say("now"))
            caught = self.refuse(desk, line, refusal)
            if refusal is errors.BadTime:
                self.assertEqual(caught.last, now)
        self.check(desk, ("book", f"come 5 0 {ANN}"), ("now", "8"))

    def test_full(self):
        desk = self.desk("house - - -")
        for at in range(30):
            desk.say(f"come 0 give {'abcdefghijklmnop'[at % 16] * (1 + at // 16)} bread - - 1 1 0 9 | any")
        self.refuse(desk, f"come 0 {BOB}", errors.Full)
        self.refuse(desk, f"would 8 {BOB}", errors.Full)

    def test_what_was_written_by_coming_to_the_time_of_a_refused_deed_stays(self):
        desk = self.desk("house - - -", f"come 5 {DAN}")
        self.refuse(desk, "off 60 dan", errors.NoName)
        self.check(desk, ("book", f"come 5 0 {DAN}\nout 50 0"), ("now", "60"), ("to 60", "none"))

    def test_no_text_ahead_of_what_the_deed_refuses(self):
        desk = self.desk("house - - -", f"come 5 {ANN}")
        for word in ("come", "change", "would"):
            for time in ("0", "5", "200", TOP):
                for text in ("x", " ", f" {ANN}", f"{ANN} ", "give", ANN.replace("10 4", "10 11"),
                             ANN.replace(" | any", ""), ANN.replace("any", "any any"), ANN.replace("ann", "any"),
                             f"5 {ANN}", f"0 {ANN}", ANN.upper()):
                    caught = self.refuse(desk, f"{word} {time} {text}", errors.NoText)
                    self.assertEqual(caught.at, 0)
        self.check(desk, ("now", "5"), ("book", f"come 5 0 {ANN}"))

    def test_names_are_any_words(self):
        desk = self.desk("house - - -", f"come 5 {ANN}")
        for name in ("", "any", "ANN", "abcdefghi", "-", "7", "a,b", "(", "ann=1", "~"):
            self.refuse(desk, f"off 5 {name}", errors.NoName)
            self.refuse(desk, f"less 5 {name} 3", errors.NoName)
            self.refuse(desk, f"less 5 {name} 0", errors.NoName)
            self.refuse(desk, f"wait 5 {name} 3", errors.NoName)
            self.refuse(desk, f"off 4 {name}", errors.BadTime)


class QuestionTest(DeskCase):
    def test_row_now_left_end_and_rest(self):
        desk = self.desk("house great - 10-20")
        self.check(desk, ("row", "none"), ("now", "none"), ("rest", "none"), ("book", ""))
        for line in (f"come 0 {DAN}", f"come 0 {CAT}", "come 9 give eve bread - - 8 1 0 100 | by zoe", f"come 9 {BOB}"):
            desk.say(line)
        self.check(desk, ("row", "2 0 1 3"), ("now", "9"), ("rest", "none"), ("left 0", "6"), ("left 3", "4"),
                   ("end 0", "waits"), ("end 3", "waits"))
        desk.say(f"come 10 {ANN}")
        self.check(desk, ("row", "4 2 0 1 3"), ("rest", "some"), ("now", "10"))
        desk.say("to 20")
        self.check(desk, ("rest", "none"), ("left 4", "0"), ("end 4", "met 20"), ("end 0", "met 20"),
                   ("end 1", "out 20"), ("left 1", "6"), ("left 3", "0"), ("row", "2"))
        desk.say("off 21 eve")
        desk.say(f"come 22 {ANN}")
        desk.say(f"change 23 {ANN}")
        self.check(desk, ("end 2", "off 21"), ("end 5", "changed 23"), ("end 6", "waits"), ("left 5", "10"),
                   ("row", "6"))

    def test_book(self):
        desk = self.desk("house - - -", f"come 0 {ANN}", f"come 1 {BOB}", "off 2 ann", "to 500")
        self.check(desk, ("book", f"come 0 0 {ANN}\ncome 1 1 {BOB}\nmeet 1 4 0 1\noff 2 ann"))

    def test_no_number(self):
        desk = self.desk("house - - -")
        for number in ("0", "1", TOP):
            self.refuse(desk, f"left {number}", errors.NoNumber)
            self.refuse(desk, f"end {number}", errors.NoNumber)
        desk.say(f"come 5 {ANN}")
        self.check(desk, ("left 0", "10"), ("end 0", "waits"))
        self.refuse(desk, "left 1", errors.NoNumber)
        self.refuse(desk, "end 1", errors.NoNumber)

    def test_asked_again(self):
        desk = self.desk("house - - 10-20", f"come 10 {ANN}", f"come 10 {DAN}")
        asked = ["row", "now", "book", "left 0", "end 0", "rest", f"would 90 {BOB}", "judge\n", "judge\nout 5 0"]
        first = [desk.say(line) for line in asked]
        self.assertEqual([desk.say(line) for line in asked[::-1]], first[::-1])


class JudgeLineTest(DeskCase):
    def test_right_and_wrong_books(self):
        desk = self.desk("house - - 10-20", f"come 0 {ANN}")
        rows = [f"come 5 0 {ANN}", f"come 12 1 {DAN}", "less 13 ann 5", "meet 20 5 0 1", f"come 20 2 {BOB}",
                "off 21 bob"]
        for many in range(len(rows) + 1):
            self.check(desk, ("judge\n" + "\n".join(rows[:many]), "right"))
        self.check(desk, ("judge\n" + "\n".join(rows[1:]), "0"), ("judge\n" + "\n".join(rows[:3] + rows[4:]), "3"),
                   ("judge\n" + "\n".join(rows + rows[-1:]), "6"), ("judge\n" + "\n".join(rows[:1] + rows), "1"),
                   ("judge\nout 5 0", "0"), ("book", f"come 0 0 {ANN}"))

    def test_by_the_house_of_the_desk(self):
        book = f"judge\ncome 12 0 {ANN}\ncome 12 1 {BOB}\nmeet 20 4 0 1"
        for house, answer in (("house - - 10-20", "right"), ("house - - -", "2"), ("house - bread 10-20", "2"),
                              ("house soon wood 10-20", "right"), ("house - - 10-21", "2")):
            self.check(self.desk(house), (book, answer))
        desk = self.desk("house - - -", "house - - 10-20")
        self.refuse(desk, "house - - 20-10", errors.BadRule)
        self.check(desk, (book, "right"))

    def test_the_text_without_signs(self):
        self.check(self.desk("house - - -"), ("judge\n", "right"))

    def test_no_text(self):
        desk = self.desk("house - - -", f"come 5 {ANN}")
        for text, at in (("x", 0), ("\n", 0), ("out 5 0\n", 1), ("out 5 0\n\nout 5 0", 1), (" ", 0), ("out 05 0", 0),
                         (f"come 5 {ANN}", 0), ("out 9 9\nmeet 1 0 0 1", 1), ("judge\n", 0),
                         ("out 5 0\nhouse - - -", 1)):
            self.assertEqual(self.refuse(desk, "judge\n" + text, errors.NoText).at, at)

    def test_no_line(self):
        desk = self.desk("house - - -", f"come 5 {ANN}")
        for line in ("judge", "judge ", "judge out 5 0", "judge x y", "judge out", "judge \n", "judge \nout 5 0",
                     " judge\n", "Judge\n", "\njudge\n", "judge\r\n", "judges\n", "jud\nge", "judge 5\n", "judge  ",
                     "judge 0 1"):
            self.refuse(desk, line, errors.NoLine)

    def test_the_book_of_the_desk(self):
        desk = self.desk("house heavy - 10-20", f"come 10 {ANN}", f"come 11 {BOB}", f"come 12 {DAN}", "to 60")
        self.check(desk, ("judge\n" + desk.say("book"), "right"))


class NoLineTest(DeskCase):
    def test_other_words_ahead(self):
        desk = self.desk("house - - -", f"come 5 {ANN}")
        for word in ("", " ", "x", "Row", "ROW", "rows", "ro", "row\n", "\nrow", "meet", "out", "come_to", "waiters",
                     "meetings", "offer", "5", "-", "none", "ok"):
            for behind in ("", " ", " 5", " 5 ann", f" 5 {ANN}", " 5 ann 3"):
                self.refuse(desk, word + behind, errors.NoLine)

    def test_too_few_and_too_many_words(self):
        desk = self.desk("house - - -", f"come 5 {ANN}")
        for line in ("come", "come ", "come 5", "come 5 ", "change", "change 5", "change 5 ", "would", "would 5",
                     "would 5 ", "off", "off ", "off 5", "off 5 ann ", "off 5 ann bob", "off 5  ann", "less", "less 5",
                     "less 5 ann", "less 5 ann 3 ", "less 5 ann 3 4", "wait", "wait 5", "wait 5 ann", "wait 5 ann 90 ",
                     "wait 5 ann 90 1", "to", "to ", "to 5 ", "to 5 5", "row ", "row 0", " row", "now ", "now 5",
                     "book ", "book 0", "left", "left ", "left 0 ", "left 0 1", "end", "end ", "end 0 ", "end 0 0",
                     "rest ", "rest 0", " to 5", "to  5"):
            self.refuse(desk, line, errors.NoLine)

    def test_numbers_that_are_not_so_written(self):
        desk = self.desk("house - - -", f"come 5 {ANN}")
        wrong = ("", "x", "05", "00", "-1", "+5", "5.0", "1000000001", "10000000000", "9" * 5000, "5x", "0x5", "ann",
                 "-", "5,", "1_0", "\t5", "\u0665", "\xb2")
        for word in wrong:
            for line in (f"come {word} {BOB}", f"change {word} {ANN}", f"would {word} {BOB}", f"off {word} ann",
                         f"less {word} ann 3", f"less 5 ann {word}", f"wait {word} ann 90", f"wait 5 ann {word}",
                         f"to {word}", f"left {word}", f"end {word}", f"come {word} x", f"less 5 nobody {word}"):
                self.refuse(desk, line, errors.NoLine)
        self.check(desk, ("now", "5"))

    def test_line_feeds(self):
        desk = self.desk("house - - -", f"come 5 {ANN}")
        for line in LINES[:-2] + [f"come 5 {BOB}", "house - - -", "off 5 x", "come 5 x"]:
            for at in range(len(line) + 1):
                self.refuse(desk, line[:at] + "\n" + line[at:], errors.NoLine)
            self.refuse(desk, line + "\n" + line, errors.NoLine)
        self.check(desk, ("book", f"come 5 0 {ANN}"))

    def test_what_is_no_text(self):
        for desk in (Desk(), self.desk("house - - -")):
            for thing in odd_things() + [b"row", ["row"], ("row",), 0, 7, {"row": 1}]:
                self.refuse(desk, thing, errors.NoLine)
            for name, deep in deep_things():
                self.refuse(desk, deep, errors.NoLine, name)

    def test_each_word_of_the_document_is_known(self):
        desk = self.desk("house - - -", f"come 5 {ANN}")
        right = [line for line in LINES if not line.startswith("come")] + ["house - - -", f"come 6 {BOB}"]
        self.assertEqual({line.split()[0] for line in right}, set(WORDS))
        for line in ("house - - -", f"come 5 {ANN}", f"would 6 {BOB}", "row", "now", "book", "left 0", "end 0", "rest",
                     "judge\n", "less 5 ann 3", "wait 5 ann 90", f"change 5 {ANN}", "off 5 ann", "to 6"):
            self.assertIs(type(desk.say(line)), str)

    def test_by_name(self):
        self.assertEqual(Desk().say(line="house - - -"), "ok")


class DrawnTest(DeskCase):
    def line_of(self, deed):
        word, time, *told = deed
        told = [offer_text(told[0])] if word in ("come", "change") else told
        return " ".join([{"come_to": "to"}.get(word, word), str(time)] + [str(one) for one in told])

    def test_the_desk_does_what_a_house_does(self):
        for seed in range(600, 640):
            draw = Draw(seed, bad=False)
            house, desk = House(*draw.made_of()), Desk()
            lists = [",".join(words) or "-" for words in draw.made_of()[:2]]
            quiet = ",".join(f"{begin}-{end}" for begin, end in draw.quiet) or "-"
            self.check(desk, (f"house {lists[0]} {lists[1]} {quiet}", "ok"))
            for deed in draw.deeds:
                before = len(house.book())
                told = do(house, deed)
                if is_refused(told):
                    self.refuse(desk, self.line_of(deed), getattr(errors, told))
                else:
                    self.check(desk, (self.line_of(deed), book_text(house.book()[before:]) or "none"))
            self.check(desk, ("now", str(house.now())), ("row", " ".join(map(str, house.row())) or "none"),
                       ("book", book_text(house.book())), ("rest", "some" if house.rest() is None else "none"),
                       ("judge\n" + book_text(house.book()), "right"))
            for number in [row[3] for row in house.book() if row[0] in ("come", "change")]:
                end = house.end(number)
                self.check(desk, (f"left {number}", str(house.left(number))),
                           (f"end {number}", f"{end[0]} {end[1]}" if end else "waits"))
            less = house.book()[1:]
            at = judged(*draw.made_of(), less)
            self.check(desk, ("judge\n" + book_text(less), "right" if at is None else str(at)))


if __name__ == "__main__":
    unittest.main()
