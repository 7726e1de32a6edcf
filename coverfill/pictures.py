"""Pictures: layers over one another, and the grounds that they make of the clear one."""

from coverfill.errors import NoLayer, NoPlace
from coverfill.films import clear_ground, seen
from coverfill.layers import touched_cells


class Picture:
    """A floor with numbered layers; only the cells that were touched are done again when it is renewed."""

    def __init__(self, width, height, watcher=None):
        self.width = width
        self.height = height
        self.watcher = watcher
        # The numbers of the layers, the lowest one first.
        self.order = []
        self.layers = {}
        # A layer never changes, so its films are found once, when it is laid.
        self.laid = {}
        self.count = 0
        self.marks = {}
        self.grounds = [[clear_ground() for column in range(width)] for row in range(height)]

    def add(self, layer):
        """The number of the layer, which lies on top now."""
        number = self.count
        self.lay(number, layer, layer.films(self.width, self.height))
        self.order.append(number)
        self.count += 1
        return number

    def drop(self, number):
        self.check_lies(number)
        self.mark(number)
        self.order.remove(number)
        self.layers.pop(number)
        self.laid.pop(number)

    def change(self, number, layer):
        """Puts the layer where the one of this number lay."""
        self.check_lies(number)
        films = layer.films(self.width, self.height)
        self.mark(number)
        self.lay(number, layer, films)

    def lift(self, number, place):
        """Puts the layer where so many of the others lie beneath it as the place says."""
        self.check_lies(number)
        if place < 0 or place >= len(self.order):
            raise NoPlace("a place is from 0 to how many other layers there are")
        if place == self.order.index(number):
            return
        self.order.remove(number)
        self.order.insert(place, number)
        self.mark(number)

    def numbers(self):
        """The numbers of the layers, the lowest one first."""
        return list(self.order)

    def layer_by(self, number):
        """The layer that lies by this number."""
        self.check_lies(number)
        return self.layers[number]

    def renew(self):
        """Does the touched cells again and tells them, row by row from the lowest, in a row by columns."""
        touched = sorted(self.marks, key=lambda cell: (cell[1], cell[0]))
        self.marks = {}
        for cell in touched:
            self.grounds[cell[1]][cell[0]] = self.ground_at(cell[0], cell[1])
        # Behind all the work, so that a watcher never meets a picture that is half done.
        if self.watcher is not None:
            for cell in touched:
                self.watcher(cell[0], cell[1])
        return touched

    def cells(self):
        """The ground at each cell when the picture was last renewed: a list of rows, the lowest one first."""
        return [list(row) for row in self.grounds]

    def check_lies(self, number):
        # The number is not told in the words: a very long one can't be written.
        if number not in self.layers:
            raise NoLayer("no layer lies by this number")

    def lay(self, number, layer, films):
        self.layers[number] = layer
        self.laid[number] = films
        self.mark(number)

    def mark(self, number):
        """The cells that the layer touches are to be done again."""
        for cell in touched_cells(self.laid[number]):
            self.marks[cell] = True

    def ground_at(self, column, row):
        ground = clear_ground()
        for number in self.order:
            ground = seen(self.laid[number][row][column], ground)
        return ground
