"""Section 3: the guarantees, over the whole program; what one function returns is handed to the next ones."""

import random
import unittest

from fewgoings.chains import Chain
from fewgoings.classes import prefix_of, prefixes, suffix_of, suffixes
from fewgoings.enders import count, ender, leading
from fewgoings.errors import OtherSymbols, TooMany
from fewgoings.fars import far_length, far_many, far_outcome, far_passes, far_word, far_words
from fewgoings.journals import read_far, read_journal, recover, show_far, stored
from fewgoings.needing import nearest, needs, shows_needs
from fewgoings.pages import Page
from fewgoings.passes import output_of, passes, traces
from fewgoings.programs import Program
from fewgoings.readers import Reader
from fewgoings.runs import configurations, run
from fewgoings.sames import lean, same, shows_same
from fewgoings.sights import lookahead, shows_lookahead
from fewgoings.writers import partings, shows_writer, writer, written
from tests.brute import all_texts
from tests.fartexts import drawn_far, text_of
from tests.randoms import Maker, Sweeper


def programs(seeds):
    """Programs of all kinds with few enough classes."""
    for seed in seeds:
        for text in [Sweeper(seed).program()] + [Maker(seed).program()] * (seed % 2):
            if answer(prefixes, Program(text)) is not None:
                yield Program(text)


def machines(seeds):
    """The same, and chains of two of them."""
    for seed in seeds:
        yield from programs([seed])
        maker = Sweeper(seed)
        try:
            chain = Chain(Program(maker.program(letters="ab")), Program(maker.program("ab")))
        except OtherSymbols:
            continue
        if answer(prefixes, chain) is not None:
            yield chain


def answer(function, *given):
    """What a function returns, None for TooMany."""
    try:
        return function(*given)
    except TooMany:
        return None


def short_texts(machine):
    return all_texts(machine.symbols, {2: 5, 3: 3, 4: 2}[len(machine.symbols)])


def output_on(machine, text):
    result = run(machine, text)
    return tuple(row[:2] for row in result[1]) if result[0] == "done" else ()


def fewest(output):
    """The least number of passes from left to right, by trying all ways to cut an output."""
    positions = [position for _, position in output]
    best = [0]
    for end in range(1, len(output) + 1):
        fits = [start for start in range(end) if positions[start:end] == sorted(positions[start:end])]
        best.append(min(best[start] for start in fits) + 1)
    return best[-1]


class GuaranteesTest(unittest.TestCase):
    def test_passes_of_a_text(self):
        for machine in machines(range(20)):
            for text in short_texts(machine)[::3]:
                output = output_on(machine, text)
                if len(output) < 25:
                    self.assertEqual(len(passes(machine, text)), fewest(output))
                joined = [(letter, position) for rows in passes(machine, text) for position, word in rows for letter in word]
                self.assertEqual(tuple(joined), output)
                self.assertEqual(output_of(traces(machine, text)), output)

    def test_passes_of_all_texts(self):
        kinds = {}
        for machine in machines(range(50)):
            for turns in (False, True):
                found = needs(machine, turns=turns)
                kinds[found and found[0]] = True
                self.assertTrue(shows_needs(machine, found, turns=turns))
                numbers = [len(passes(machine, text, turns=turns)) for text in short_texts(machine)]
                if found is None:
                    self.assertEqual({run(machine, text)[0] for text in short_texts(machine)}, {"ever"})
                elif found[0] == "needs":
                    self.assertEqual(len(passes(machine, found[2], turns=turns)), found[1])
                    self.assertLessEqual(max(numbers), found[1])
                    self.assertEqual(nearest(machine, found[2], max(found[1], 0), turns=turns), (0, found[2]))
                else:
                    self.check_ring(machine, found, turns)
        self.assertLessEqual({"needs", "endless"}, set(kinds))

    def check_ring(self, machine, found, turns):
        """Each further repetition of the ring needs as many passes more, up to 10 ** 18 of them."""
        _, ahead, ring, behind = found

        def many(times):
            far = tuple(pair for pair in ((ahead, 1), (ring, times), (behind, 1)) if pair[0])
            if max(len(ahead), len(ring), len(behind)) > 20:
                return 1 + times
            return far_passes(machine, far, turns=turns)

        more = many(2) - many(1)
        self.assertGreater(more, 0)
        self.assertEqual(many(10 ** 18), many(1) + more * (10 ** 18 - 1))

    def test_writers(self):
        rnd = random.Random(1)
        for program in programs(range(40)):
            for number in (1, 2, 3):
                found = answer(writer, program, number)
                if found is None:
                    continue
                for text in short_texts(program)[::4]:
                    rows = passes(program, text)
                    self.assertEqual(written(program, found, text), rows[number - 1] if len(rows) >= number else ())
                self.assertTrue(shows_writer(program, number, found))
                far = drawn_far(rnd, program.symbols)
                for position in range(0, far_length(far) + 2, 7):
                    word = dict(far_words(program, far, position)).get(number, "")
                    self.assertEqual(far_word(program, found, far, position), word)
                # Texts that part states lead to other words indeed.
                lefts, rights = partings(program, found)
                self.assertEqual([len(lefts), len(rights)], [len(side) * (len(side) - 1) // 2 for side in found[:2]])
                for _, _, text in lefts + rights:
                    run(program, text)

    def test_lookaheads_and_readers(self):
        rnd = random.Random(2)
        for program in programs(range(40)):
            for number in (1, 2):
                found = answer(lookahead, program, number)
                if found is None:
                    continue
                self.assertTrue(shows_lookahead(program, number, found))
                text = "".join(rnd.choice(program.symbols) for _ in range(12))
                if found[0] == "sees" and found[2] is not None:
                    prefix, one, other = found[2]
                    text = prefix + one + text
                reader = Reader(program, number)
                told = list(reader.told)
                for symbol in text:
                    told += reader.feed(symbol)
                    if found[0] == "sees":
                        self.assertLessEqual(len(reader.held), found[1])
                told += reader.close()
                rows = written(program, writer(program, number), text)
                self.assertEqual(tuple(row for row in sorted(told) if row[1]), rows)

    def test_a_reader_is_never_earlier(self):
        # While a position is held, two continuations give different words.
        for program in programs(range(30)):
            found = answer(writer, program, 1)
            if found is None:
                continue
            reader, text = Reader(program, 1), ""
            for symbol in (program.symbols * 3)[:5]:
                reader.feed(symbol)
                text += symbol
                for position in reader.held:
                    # One of the right states behind the text is met by these; all of them are by some texts.
                    tails = all_texts(program.symbols, 5 if len(program.symbols) == 2 else 3)
                    words = {dict(written(program, found, text + tail)).get(position, "") for tail in tails}
                    if len(found[1]) <= 3:
                        self.assertGreater(len(words), 1)

    def test_same_programs(self):
        made = list(machines(range(24)))
        for one in made:
            self.assertEqual(same(one, one), ("same", prefixes(one), suffixes(one)))
            for other in [machine for machine in made if machine.symbols == one.symbols][:7]:
                found = answer(same, one, other)
                if found is None:
                    continue
                self.assertTrue(shows_same(one, other, found))
                self.assertEqual(found[0], answer(same, other, one)[0])
                texts = [text for text in short_texts(one)
                         if (run(one, text)[0], output_on(one, text)) != (run(other, text)[0], output_on(other, text))]
                if found[0] == "same":
                    self.assertEqual(texts, [])
                elif len(found[1]) <= len(short_texts(one)[-1]):
                    self.assertEqual(texts[0], found[1])
                else:
                    self.assertEqual(texts, [])

    def test_lean_programs_do_the_same(self):
        for program in programs(range(25)):
            text, _ = lean(program)
            other = Program(text)
            if answer(same, program, other) is not None:
                self.assertEqual(same(program, other)[0], "same")
                self.assertEqual(ender(program), ender(other))
                self.assertEqual((needs(program) or ("none",))[0], (needs(other) or ("none",))[0])
                if needs(program) and needs(program)[0] == "needs":
                    self.assertEqual(needs(program)[1:3], needs(other)[1:3])

    def test_far_texts(self):
        rnd = random.Random(3)
        for machine in machines(range(60)):
            far = read_far(show_far(drawn_far(rnd, machine.symbols)))
            text = text_of(far)
            self.assertEqual(far_outcome(machine, far), run(machine, text)[0])
            self.assertEqual(far_many(machine, far), len(output_on(machine, text)))
            for turns in (False, True):
                self.assertEqual(far_passes(machine, far, turns=turns), len(passes(machine, text, turns=turns)))

    def test_far_texts_and_classes(self):
        # The same classes on both sides, the same further repetitions.
        rnd = random.Random(4)
        for machine in machines(range(30)):
            far = drawn_far(rnd, machine.symbols)
            text = text_of(far)
            ahead, behind = prefix_of(machine, text), suffix_of(machine, text)
            self.assertEqual((prefix_of(machine, ahead), suffix_of(machine, behind)), (ahead, behind))
            self.assertEqual(far_outcome(machine, far), run(machine, ahead)[0])
            self.assertEqual(far_outcome(machine, far), run(machine, behind)[0])
            moves, outcomes = ender(machine)
            state = 0
            for symbol in text:
                state = moves[state][machine.symbols.index(symbol)]
            self.assertEqual(outcomes[state], far_outcome(machine, far))

    def test_pages(self):
        rnd = random.Random(5)
        for program in programs(range(30)):
            page = Page(program)
            for _ in range(4):
                page.put(rnd.randint(1, page.length + 1), drawn_far(rnd, program.symbols, most=20))
                first = rnd.randint(1, page.length)
                with page.trial():
                    page.strike(first, page.length)
                page.move(first, page.length, rnd.randint(1, first))
            page.undo()
            text = "".join(page.symbol(at) for at in range(1, page.length + 1))
            fresh = Page(program)
            fresh.put(1, tuple((text[at:at + 20], 1) for at in range(0, len(text), 20))[:6])
            self.assertEqual(fresh.length, min(len(text), 120))
            if len(text) <= 120:
                for name in ("outcome", "many", "passes", "turns", "length"):
                    self.assertEqual(getattr(fresh, name), getattr(page, name))
                for at in range(1, len(text) + 1, 5):
                    self.assertEqual(fresh.words(fresh.identity(at)), page.words(page.identity(at)))
            self.assertEqual(page.outcome, run(program, text)[0])
            back = read_journal(page.journal)
            torn, lost = recover(stored(page)[:-2])
            self.assertEqual((back == page, torn.journal, lost), (True, page.journal[:-1], len(page.journal[-1]) + 1))

    def test_counts_and_leading_texts(self):
        for program in programs(range(30)):
            for length in range(4):
                texts = [text for text in all_texts(program.symbols, length) if len(text) == length]
                done = [text for text in texts if run(program, text)[0] == "done"]
                self.assertEqual((count(program, "done", length), count(program, "ever", length)), (len(done), len(texts) - len(done)))
                for text in done[:2]:
                    word = "".join(letter for letter, _ in output_on(program, text))
                    if len(word) <= 6:
                        many, least = answer(leading, program, word) or (None, text)
                        self.assertTrue(many is None or many > 0)
                        self.assertLessEqual((len(least), least), (len(text), text))
                        self.assertEqual("".join(letter for letter, _ in output_on(program, least)), word)

    def test_returned_texts_of_any_length(self):
        # A text of more than 100 symbols that a function returns is taken by the others.
        program = Program("symbols ab\npart p\n  right\n  right\n  right\n  right\n  right\n  right\npart q\n  do p\n  do p\n  do p\n"
                          "  do p\nmain\n  do q\n  do q\n  do q\n  do q\n  do q\n  write x")
        stop = Program("symbols ab\nmain\n  stop")
        self.assertIsNone(answer(same, program, stop))
        self.assertEqual(far_words(program, (("a", 119),), 120), ((1, "x"),))
        self.assertEqual(far_words(program, (("a", 118),), 119), ())
        text = "a" * 119
        self.assertEqual(run(program, text), ("done", (("x", 120),)))
        self.assertEqual(len(list(configurations(program, text))), 147)
        self.assertEqual(len(traces(program, text)), 121)
