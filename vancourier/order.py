"""The search in ascending lists."""


def place_of(rows, row):
    """Returns how many of the rows, which are ascending, are less than the row."""
    least = 0
    most = len(rows)
    while least < most:
        middle = (least + most) // 2
        if rows[middle] < row:
            least = middle + 1
        else:
            most = middle
    return least
