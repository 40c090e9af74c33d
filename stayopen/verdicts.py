"""The base of the papers that answer yes or no."""


class Verdict:
    """A paper whose bool is its answer; it is not made itself."""
