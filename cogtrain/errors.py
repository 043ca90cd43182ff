"""The refusals, one class for each reason."""


# Under ValueError, so that whoever knows only Python's own errors can take every refusal at once.
class TrainError(ValueError):
    pass


class NoName(TrainError):
    pass


class Twice(TrainError):
    pass


class NoTeeth(TrainError):
    pass


class Full(TrainError):
    pass


class NoWheel(TrainError):
    pass


class NoJoin(TrainError):
    pass


class NoText(TrainError):
    pass


class Jams(TrainError):
    pass
