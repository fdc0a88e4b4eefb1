"""Charts: a watch as rows of text."""


def chart(watch):
    """A header with the hours, then one row of strengths for each gate."""
    house = watch.house
    rows = [_line(name, row) for name, row in zip(house.names, watch.rows)]
    return [_line("gate", list(range(house.hours)))] + rows


def _line(name, numbers):
    return f"{name:<8}" + "".join([f"{number:>3}" for number in numbers])
