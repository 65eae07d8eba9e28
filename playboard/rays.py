"""Rays: the squares that one step, taken again and again, comes to."""


def ray(board, square, across, up):
    # A step that leads nowhere would be taken without end.
    if across == 0 and up == 0:
        return []
    come_to = []
    here = board.moved(square, across, up)
    while here is not None:
        come_to.append(here)
        here = board.moved(here, across, up)
    return come_to
