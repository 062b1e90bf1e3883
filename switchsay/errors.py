"""The refusals of the program, one class for each."""


class SwitchError(ValueError):
    pass


class NoField(SwitchError):
    def __init__(self, field):
        SwitchError.__init__(self, f"the speech has no field {field!r}")
        self.field = field


class NoValue(SwitchError):
    def __init__(self, value):
        SwitchError.__init__(self, f"there is no value {value!r} here")
        self.value = value


# A saying can be thousands of parts long and nested deeply, so the words
# of the next two errors don't show it: who wants it has it in the field.


class NoTest(SwitchError):
    def __init__(self, saying):
        SwitchError.__init__(self, "a saying that is no test stands where a test must stand")
        self.saying = saying


class NoPlain(SwitchError):
    def __init__(self, saying):
        SwitchError.__init__(self, "a saying with a note stands where none may be")
        self.saying = saying


class TooGreat(SwitchError):
    def __init__(self, number, most):
        SwitchError.__init__(self, f"{number!r} is more than {most!r}")
        self.number = number
        self.most = most


class NoNet(SwitchError):
    pass
