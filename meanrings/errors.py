"""All refusals of the package."""


class MeanError(ValueError):
    """Any refusal."""


class NoPlace(MeanError):
    """What was handed in is no place of the web."""


class NoArrow(MeanError):
    """There is no such arrow, or no way along such arrows."""


class NoRing(MeanError):
    """There is no ring, or what was handed in is none of the web."""


class NoNumber(MeanError):
    """What was handed in is no such number, or no such numbers."""


class NoRow(MeanError):
    """What was handed in is no such row."""


class NoWeb(MeanError):
    """No web can be made; number is the place of what is amiss, -1 for how many places."""

    def __init__(self, number):
        super().__init__(f"no web, for what stands at {number}")
        self.number = number


class NoText(MeanError):
    """The text writes no web; row is the number of the row that is amiss."""

    def __init__(self, row):
        super().__init__(f"no web is written, for row {row}")
        self.row = row


class TooGreat(MeanError):
    """There are many where there may be most."""

    def __init__(self, many, most):
        super().__init__(f"{many} is more than {most}")
        self.many = many
        self.most = most
