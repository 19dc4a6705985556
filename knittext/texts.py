"""Texts: read from their bytes to the stitches they tell, or to their first fault."""

MOST_STITCHES = 40
MOST_BRACKETS = 8
MOST_DIGITS = 2
LEAST_NUMBER = 2

LETTER_A = 97
LETTER_Z = 122
DIGIT_0 = 48
DIGIT_9 = 57
ROUND_OPENING = 40
ROUND_CLOSING = 41
ANGLE_OPENING = 60
ANGLE_CLOSING = 62
SQUARE_OPENING = 91
SQUARE_CLOSING = 93
CLOSINGS = {40: 41, 60: 62, 91: 93}
# No byte is below 0, so nothing closes what lies outside of all brackets.
NO_CLOSING = -1

NO_FAULT = 0
WRONG_BYTE = 1
WRONG_NUMBER = 2
TOO_LONG = 3
TOO_DEEP = 4


def is_letter(byte):
    return LETTER_A <= byte <= LETTER_Z


def is_digit_at(text, place):
    return place < len(text) and DIGIT_0 <= text[place] <= DIGIT_9


def digits_from(text, place):
    """All digits that stand together from the place on, as numbers from 0 to 9."""
    digits = []
    while is_digit_at(text, place + len(digits)):
        digits.append(text[place + len(digits)] - DIGIT_0)
    return digits


def number_of(digits):
    """The number that the digits tell, or 0 if they aren't as a number's must be."""
    if len(digits) > MOST_DIGITS or digits[0] == 0:
        return 0
    number = 0
    for digit in digits:
        number = number * 10 + digit
    return number if number >= LEAST_NUMBER else 0


class Level:
    """What the parts tell that stand so far within one bracket, or outside of all."""

    def __init__(self, closing):
        self.closing = closing
        self.length = 0
        self.stitches = []

    def take(self, length, stitches):
        self.length += length
        # A text may tell more stitches than could ever be written out: beyond the most they are only counted.
        if self.length <= MOST_STITCHES:
            self.stitches.extend(stitches)


class Reading:
    """A text that is being read, or has been: its first fault, what it tells, and what its cost is made of."""

    def __init__(self, text):
        self.text = text
        self.place = 0
        self.fault_kind = NO_FAULT
        self.fault_place = 0
        self.levels = [Level(NO_CLOSING)]
        self.depth = 0
        self.letters = 0
        self.numbers = 0
        self.rounds = 0
        self.others = 0

    def is_right(self):
        return self.fault_kind == NO_FAULT

    def fault(self):
        return [self.fault_kind, self.fault_place]

    def told(self):
        return self.levels[0].stitches

    def cost(self, weights):
        signs = self.letters * weights.letter + self.numbers * weights.number
        return signs + self.rounds * weights.brackets + self.others * weights.others

    def fail(self, kind, place):
        self.fault_kind = kind
        self.fault_place = place

    def take_byte(self):
        byte = self.text[self.place]
        level = self.levels[-1]
        if is_letter(byte):
            self.take_letter(byte - LETTER_A)
        elif byte in CLOSINGS:
            self.take_opening(CLOSINGS[byte])
        elif level.length > 0 and byte == level.closing:
            self.take_closing(byte)
        else:
            self.fail(WRONG_BYTE, self.place)

    def take_letter(self, stitch):
        self.letters += 1
        self.place += 1
        times = 1
        if is_digit_at(self.text, self.place):
            times = self.take_number()
        self.levels[-1].take(times, [stitch] * times)

    def take_number(self):
        """The number whose first digit is at the place; 0 if it is a fault."""
        digits = digits_from(self.text, self.place)
        number = number_of(digits)
        if number == 0:
            self.fail(WRONG_NUMBER, self.place)
        self.numbers += 1
        self.place += len(digits)
        return number

    def take_opening(self, closing):
        if len(self.levels) > MOST_BRACKETS:
            self.fail(TOO_DEEP, self.place)
        else:
            self.place += 1
            self.depth = max(self.depth, len(self.levels))
            self.levels.append(Level(closing))

    def take_closing(self, byte):
        self.place += 1
        inner = self.levels.pop()
        if byte == ROUND_CLOSING:
            self.take_repeat(inner)
        else:
            self.take_mirrored(inner, byte == SQUARE_CLOSING)

    def take_repeat(self, inner):
        self.rounds += 1
        if is_digit_at(self.text, self.place):
            times = self.take_number()
            self.levels[-1].take(inner.length * times, inner.stitches * times)
        else:
            self.fail(WRONG_BYTE, self.place)

    def take_mirrored(self, inner, is_last_once):
        self.others += 1
        once = 1 if is_last_once else 0
        backwards = list(reversed(inner.stitches))
        self.levels[-1].take(inner.length * 2 - once, inner.stitches + backwards[once:])

    def take_end(self):
        if len(self.levels) > 1 or self.levels[0].length == 0:
            self.fail(WRONG_BYTE, len(self.text))
        elif self.levels[0].length > MOST_STITCHES:
            self.fail(TOO_LONG, len(self.text))


def read_text(text):
    reading = Reading(text)
    while reading.is_right() and reading.place < len(text):
        reading.take_byte()
    if reading.is_right():
        reading.take_end()
    return reading
