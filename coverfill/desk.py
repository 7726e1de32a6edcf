"""The desk: a picture and shapes by names, told and asked in rows of words."""

from coverfill.errors import NoCell, NoName
from coverfill.layers import Fill, Join, Masked, Rub
from coverfill.pictures import Picture
from coverfill.ratios import ONE, times, whole_part
from coverfill.rings import shape_area
from coverfill.rows import read_row
from coverfill.sums import shares
from coverfill.words import show_ratio

DONE = "ok"


def cell_text(cell):
    column = cell[0]
    row = cell[1]
    return f"{column},{row}"


def cell_sign(ground):
    """The one sign that shows how far the cell is covered."""
    if ground[0] == ONE:
        return "#"
    return str(whole_part(times((10, 1), ground[0])))


class Desk:
    """It answers each row with a text, or refuses it, and then nothing is changed."""

    def __init__(self, width, height):
        self.width = width
        self.height = height
        self.picture = Picture(width, height)
        self.shapes = {}

    def say(self, row):
        read = read_row(row)
        word = read[0]
        if word == "shape":
            return self.keep_shape(read[1], read[2])
        if word == "fill":
            return self.fill(read[1], (read[2], read[3], read[4]), read[5])
        if word == "rub":
            return self.rub(read[1], read[2])
        if word == "mask":
            return self.mask(read[1], read[2])
        if word == "thin":
            return self.thin(read[1], read[2])
        if word == "drop":
            return self.drop(read[1])
        if word == "lift":
            return self.lift(read[1], read[2])
        if word == "renew":
            return self.renew()
        if word == "cell":
            return self.tell_cell(read[1], read[2])
        if word == "share":
            return self.tell_share(read[1], read[2], read[3])
        if word == "area":
            return show_ratio(shape_area(self.shape_by(read[1])))
        return self.show()

    def keep_shape(self, name, shape):
        self.shapes[name] = shape
        return DONE

    def fill(self, name, ink, strength):
        return str(self.picture.add(Fill(self.shape_by(name), ink, strength)))

    def rub(self, name, strength):
        return str(self.picture.add(Rub(self.shape_by(name), strength)))

    def mask(self, number, name):
        # The name first: a name that is none is refused ahead of a number that is none.
        shape = self.shape_by(name)
        self.picture.change(number, Masked(shape, self.picture.layer_by(number)))
        return DONE

    def thin(self, number, strength):
        self.picture.change(number, Join([self.picture.layer_by(number)], strength))
        return DONE

    def drop(self, number):
        self.picture.drop(number)
        return DONE

    def lift(self, number, place):
        self.picture.lift(number, place)
        return DONE

    def renew(self):
        touched = self.picture.renew()
        if len(touched) == 0:
            return "none"
        return " ".join([cell_text(cell) for cell in touched])

    def tell_cell(self, column, row):
        self.check_on_floor(column, row)
        return " ".join([show_ratio(part) for part in self.picture.cells()[row][column]])

    def tell_share(self, name, column, row):
        shape = self.shape_by(name)
        self.check_on_floor(column, row)
        return show_ratio(shares(self.width, self.height, shape)[row][column])

    def show(self):
        rows = ["".join([cell_sign(ground) for ground in row]) for row in reversed(self.picture.cells())]
        return "/".join(rows)

    def shape_by(self, name):
        if name not in self.shapes:
            raise NoName(f"no shape stands by the name {name}")
        return self.shapes[name]

    def check_on_floor(self, column, row):
        if column >= self.width or row >= self.height:
            raise NoCell("the cell is not on the floor")
