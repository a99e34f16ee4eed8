"""The refusals of the program, one class for each."""


class SwitchError(ValueError):
    # Taken by whoever does not ask which refusal it was.
    pass


class BadHall(SwitchError):
    pass


class NoEnd(SwitchError):
    pass


class Busy(SwitchError):
    pass


class NoCall(SwitchError):
    pass


class BadTable(SwitchError):
    pass


class BadOrder(SwitchError):
    pass


class BadText(SwitchError):
    pass


class BadSorters(SwitchError):
    pass


class Unsound(SwitchError):
    pass
