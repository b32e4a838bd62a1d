"""The errors of the program, all directly below SameError."""


class SameError(ValueError):
    """Something is not as the document has it; value is what was handed in, or None."""

    def __init__(self, value=None):
        # The value itself is not shown in the message: it may be too large for that.
        ValueError.__init__(self, self.__class__.__name__)
        self.value = value


class BadName(SameError):
    """A name was expected."""

    def __init__(self, value):
        SameError.__init__(self, value)


class BadWidth(SameError):
    """A width was expected: an integer from 1 to 64."""

    def __init__(self, value):
        SameError.__init__(self, value)


class BadNumber(SameError):
    """A number was expected that may stand there."""

    def __init__(self, value):
        SameError.__init__(self, value)


class BadBound(SameError):
    """This cannot bound a sum."""

    def __init__(self, value):
        SameError.__init__(self, value)


class BadFormula(SameError):
    """A formula was expected that may stand there."""

    def __init__(self, value):
        SameError.__init__(self, value)


class BadValue(SameError):
    """No word is given for the input of this name."""

    def __init__(self, value):
        SameError.__init__(self, value)


class BadPick(SameError):
    """A pick, or its word, is not as it has to be."""

    def __init__(self, value):
        SameError.__init__(self, value)


class BadEnds(SameError):
    """The ends of a box are not as they have to be."""

    def __init__(self, value):
        SameError.__init__(self, value)


class BadTable(SameError):
    """A table was expected that may stand there."""

    def __init__(self, value):
        SameError.__init__(self, value)


class BadProgram(SameError):
    """A program was expected that may stand there, or a thing of one is wrong."""

    def __init__(self, value):
        SameError.__init__(self, value)


class BadText(SameError):
    """A text is not written as it has to be."""

    def __init__(self, value):
        SameError.__init__(self, value)


class BadClass(SameError):
    """A class of inputs was expected."""

    def __init__(self, value):
        SameError.__init__(self, value)


class BadValues(SameError):
    """The values of a flow are not as they have to be."""

    def __init__(self, value):
        SameError.__init__(self, value)


class BadWants(SameError):
    """The wants of a flow are not as they have to be."""

    def __init__(self, value):
        SameError.__init__(self, value)


class BadOrder(SameError):
    """An order of the flow was expected."""

    def __init__(self, value):
        SameError.__init__(self, value)


class BadPlace(SameError):
    """A place was expected that is there."""

    def __init__(self, value):
        SameError.__init__(self, value)


class BadCount(SameError):
    """A count was expected within its limits."""

    def __init__(self, value):
        SameError.__init__(self, value)


class BadCode(SameError):
    """A code was expected, or an instruction of it is wrong."""

    def __init__(self, value):
        SameError.__init__(self, value)


class BadOuts(SameError):
    """The code does not tell the outs of the program."""

    def __init__(self, value):
        SameError.__init__(self, value)


class BadPass(SameError):
    """The name of a pass was expected."""

    def __init__(self, value):
        SameError.__init__(self, value)


class BadPasses(SameError):
    """A row of passes was expected."""

    def __init__(self, value):
        SameError.__init__(self, value)


class BadSteps(SameError):
    """A row of steps was expected."""

    def __init__(self, value):
        SameError.__init__(self, value)


class NoFormula(SameError):
    """No formula without a sum has the table."""

    def __init__(self, value):
        SameError.__init__(self, value)


class Unlike(SameError):
    """The two are not alike."""

    def __init__(self, value):
        SameError.__init__(self, value)


class NotPlain(SameError):
    """A let of the program is a choice."""

    def __init__(self, value):
        SameError.__init__(self, value)


class HasSum(SameError):
    """A let of the program has a sum."""

    def __init__(self, value):
        SameError.__init__(self, value)


class Unreadable(SameError):
    """The code cannot be read back."""

    def __init__(self, value):
        SameError.__init__(self, value)


class UnlikeRest(SameError):
    """The rests of two codes are not alike."""

    def __init__(self, value):
        SameError.__init__(self, value)


class NoCode(SameError):
    """There is no code for the program of this name."""

    def __init__(self, value):
        SameError.__init__(self, value)


class TooMany(SameError):
    """There is more of something than the document lets."""

    def __init__(self):
        SameError.__init__(self)


class TooLong(SameError):
    """It would take more turns or steps than the document lets."""

    def __init__(self):
        SameError.__init__(self)


class Finished(SameError):
    """The machine is at the end of its code."""

    def __init__(self):
        SameError.__init__(self)


class NothingDone(SameError):
    """There is nothing to take back."""

    def __init__(self):
        SameError.__init__(self)
