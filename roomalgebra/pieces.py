"""Of which rows of a paper of the kind plain a word is, found by all pieces of the word."""


# Which rows a piece fits is kept in the bits of whole numbers, bit k for row k: whose begins it meets, whose ends,
# and by which rows it is shut out, for a letter of never or for one of shuts. It is of those with this number in rows.
class Piece:
    def __init__(self, many, begun, ended, shut):
        self.many = many
        self.begun = begun
        self.ended = ended
        self.shut = shut
        self.rows = [number for number in range(many) if ((begun & ended & ~shut) >> number) & 1 == 1]


def rows_of_word(rows, word):
    naming = naming_of(rows)
    pieces = [Piece(len(rows), bits_of(naming, ["begins"]), bits_of(naming, ["ends"]), 0)]
    for end in range(1, len(word) + 1):
        pieces = pieces_with_last(naming, pieces, word[:end])
    return pieces[-1].rows


# By all that rows name, just as they name it, the bits of the rows that do; and of those without begins or ends.
def naming_of(rows):
    naming = {}
    for number, row in enumerate(rows):
        names = list(row[2]) + row[3]
        names.extend(["begins"] if row[0] is None else row[0])
        names.extend(["ends"] if row[1] is None else row[1])
        for name in names:
            naming[name] = naming.get(name, 0) | (1 << number)
    return naming


def bits_of(naming, names):
    bits = 0
    for name in names:
        bits = bits | naming.get(name, 0)
    return bits


# The pieces that end with the word's last sign, from those that end just ahead of it; each list begins with the empty
# piece, and each piece in it has one sign more than the one before. So what each needs is known when its turn comes.
def pieces_with_last(naming, pieces, word):
    sign = word[-1]
    longer = [pieces[0]]
    for length, short in enumerate(pieces):
        first = word[-1 - length]
        behind = longer[length]
        shutting = [sign]
        if length > 0:
            shutting = [(first, number, sign) for number in pieces[length - 1].rows]
        begun = short.begun | bits_of(naming, [(number, sign) for number in short.rows])
        ended = behind.ended | bits_of(naming, [(first, number) for number in behind.rows])
        shut = short.shut | behind.shut | bits_of(naming, shutting)
        longer.append(Piece(short.many, begun, ended, shut))
    return longer
