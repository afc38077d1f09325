"""The refusals: each has a class of its own under MillError, and stands under no other one."""


class MillError(ValueError):
    pass


class NoMill(MillError):
    def __init__(self, word, number):
        MillError.__init__(self, word, number)
        self.word = word
        self.number = number


class NoLine(MillError):
    def __init__(self, line, word):
        MillError.__init__(self, line, word)
        self.line = line
        self.word = word


class NoContent(MillError):
    def __init__(self, pond):
        MillError.__init__(self, pond)
        self.pond = pond


class NoTime(MillError):
    def __init__(self, due, most):
        MillError.__init__(self, due, most)
        self.due = due
        self.most = most
