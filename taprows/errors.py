"""The errors of the package."""


class RowsError(ValueError):
    """The base class of all errors of the package."""


class BadPrime(RowsError):
    """A prime is one of 2, 3, 5, 7."""


class BadRow(RowsError):
    """A row is a tuple of at most 400 numbers modulo the prime."""


class BadPolynomial(RowsError):
    """A polynomial is a tuple of at most 201 numbers, the last one not 0."""


class BadNumber(RowsError):
    """An integer is missing or not within its bounds."""


class BadTaps(RowsError):
    """Taps are a tuple of at most 60 numbers modulo the prime."""


class BadStart(RowsError):
    """A start is a tuple of as many numbers as there are taps."""


class ZeroDivisor(RowsError):
    """What is divided by is zero, or begins with 0 where it must not."""


class NotText(RowsError):
    """A text is a string."""


class InvalidText(RowsError):
    """A text is not one of a polynomial; place is the index where it goes wrong."""

    def __init__(self, place):
        super().__init__(f"the text goes wrong at the index {place}")
        self.place = place


class TooMany(RowsError):
    """What is asked for is more than most."""

    def __init__(self, most):
        super().__init__(f"more than {most}")
        self.most = most


class BadLengths(RowsError):
    """Lengths are a tuple of at most 400 integers from 0 to 400."""


class BadProfile(RowsError):
    """Lengths are no profile; index is that of the first wrong one."""

    def __init__(self, index):
        super().__init__(f"no profile from the index {index} on")
        self.index = index


class BadBlock(RowsError):
    """A block is a row with at least one number, of a size that is let."""


class NotUnit(RowsError):
    """A constant, or the last tap, is missing or 0."""


class BadRegister(RowsError):
    """A register is a pair of taps and a start."""


class BadRegisters(RowsError):
    """Registers are wrong; index is that of the first wrong one, None if it is the whole."""

    def __init__(self, index):
        super().__init__(f"wrong registers at the index {index}")
        self.index = index


class BadBits(RowsError):
    """Bits are a tuple of 1 to 400 numbers modulo 2, two of them of one size."""


class BadSize(RowsError):
    """A size is an integer from 1 to 9 with at most 512 states."""


class BadTable(RowsError):
    """A table is a tuple of a number for each state."""


class NotOneToOne(RowsError):
    """Two states of the table have the same state behind them."""


class BadTerms(RowsError):
    """Terms are an ascending tuple of different terms."""


class BadFraction(RowsError):
    """A fraction is a pair of integers within bounds, the lower one not divisible by the prime."""


class OtherSize(RowsError):
    """Two rows are not of one size."""


class BadRows(RowsError):
    """Rows are wrong; index is that of the first wrong one, None if it is the whole."""

    def __init__(self, index):
        super().__init__(f"wrong rows at the index {index}")
        self.index = index


class BadPlaces(RowsError):
    """Places are an ascending tuple of different integers from 0 to 60."""


class BadSums(RowsError):
    """There is no table with these sums."""


class BadName(RowsError):
    """A name is a string of 1 to 8 letters that stands for something."""


class InvalidCommand(RowsError):
    """A line of a text cannot be run; line and column, counted from 1, tell where."""

    def __init__(self, line, column):
        super().__init__(f"line {line}, column {column}")
        self.line = line
        self.column = column


class BadField(RowsError):
    """A field polynomial cannot be split and has the leading number 1."""


class BadElement(RowsError):
    """An element of a field is a polynomial of lower degree."""


class BadParts(RowsError):
    """Parts are wrong; index is that of the first wrong one, None if it is the whole."""

    def __init__(self, index):
        super().__init__(f"wrong parts at the index {index}")
        self.index = index


class NotSingle(RowsError):
    """A factor stands twice, or is x."""


class BadSpectrum(RowsError):
    """There is no block with these entries."""
