"""What sums and steps have in common when they are worked out."""

from stepnames.errors import NoMore, NoName

MODULUS = 1000


class Effects:
    """The numbers said so far, and how many of those given were asked for."""

    def __init__(self, given):
        self.given = given
        self.said = []
        self.asked = 0

    def say(self, number):
        """Says a number."""
        self.said.append(number)

    def ask(self):
        """The next number of those given."""
        number = self.given[self.asked]
        self.asked += 1
        return number


def refuse_lacks(parts, names, given):
    """Refuses parts that names or given lack a number for."""
    # A loop of its own: a lacking name is refused ahead of asks wherever it stands.
    for part in parts:
        if part[0] == "name" and part[1] not in names:
            raise NoName(f"no number for the name {part[1]}")
    asks = [part for part in parts if part[0] == "ask"]
    if len(asks) > len(given):
        raise NoMore(f"{len(asks)} asks, but {len(given)} given")


def comes_to(part, worths, names, effects):
    """The number that a part comes to where its own parts came to worths.

    If the part is an effect, the effect takes place; those of its parts took place before.
    """
    word = part[0]
    if word == "num":
        return part[1]
    if word == "name":
        return names[part[1]]
    if word == "ask":
        return effects.ask()
    if word == "say":
        effects.say(worths[0])
        return worths[0]
    return joined(word, worths[0], worths[1])


def joined(word, first, second):
    """The sum, the difference or the product of both, the rest by 1000."""
    if word == "add":
        return (first + second) % MODULUS
    if word == "less":
        return (first - second) % MODULUS
    return first * second % MODULUS
