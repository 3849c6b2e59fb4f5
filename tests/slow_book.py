"""What [11], [12], [14] and [15] say of a book, walked through day by day, to hold the program against."""

from partwares.ruletexts import read_rule

LAST = 400


class SlowBook:
    """A book's days up to the end of one, by its entries (day, number, deed) in any order."""

    def __init__(self, entries, end):
        self.rules, self.shut, self.prices, self.queues = {}, [], {}, []
        self.wares, self.words, self.money, self.debts = {}, [], [], []
        # By days: what is told at the end of each.
        self.states = []
        for day in range(end + 1):
            self.day = day
            for ware in sorted(self.wares):
                self.morning(ware)
            for told, number, deed in sorted(entries, key=lambda entry: entry[:2]):
                if told == day:
                    word = getattr(self, deed[0] + "_")(*deed[1:])
                    if word:
                        self.words.append((number, word))
            self.states.append({name: self.state(name) for name in self.wares})
        self.words.sort()

    def state(self, name):
        ware = self.wares[name]
        return (ware["word"], ware["who"])

    def row(self, name, word, who, pence):
        self.wares[name]["rows"].append((self.day, word, who, pence))

    def free(self, house, kind):
        return [name for name in sorted(self.wares) if self.wares[name]["word"] == "free"
                and self.wares[name]["house"] == house and self.wares[name]["kind"] == kind]

    def put_by(self, name, who):
        ware = self.wares[name]
        price = self.prices[ware["house"], ware["kind"]]
        ware.update(word="put", who=who, rule=self.rules[ware["house"]].figures(), price=price, begin=self.day,
                    due=self.day, many=0, missed=0, coins=[])
        self.row(name, "put", who, price)

    def serve(self, name):
        ware = self.wares[name]
        for place, (house, kind, who) in enumerate(self.queues):
            if (house, kind) == (ware["house"], ware["kind"]):
                del self.queues[place]
                self.put_by(name, who)
                return

    def give_back(self, name, many):
        """So many coins go back, the last one first, and are told payment by payment."""
        ware = self.wares[name]
        backs = {}
        for _ in range(many):
            payment, who = ware["coins"].pop()
            backs[payment, who] = backs.get((payment, who), 0) + 1
        for (_, who), pence in backs.items():
            self.money.append((ware["house"], -pence))
            self.row(name, "back", who, pence)

    def let_go(self, name, word, percent):
        ware = self.wares[name]
        kept = -(-len(ware["coins"]) * percent // 100)
        self.row(name, word, ware["who"], kept)
        self.give_back(name, len(ware["coins"]) - kept)
        ware["kept"].append((ware["house"], kept))
        self.set_free(name)

    def set_free(self, name):
        self.wares[name].update(word="free", who="", coins=[])
        self.serve(name)

    def sell(self, name):
        ware = self.wares[name]
        self.row(name, "sold", ware["who"], ware["price"])
        self.give_back(name, len(ware["coins"]) - ware["price"])
        ware.update(word="sold", sold_on=self.day, sold_in=ware["house"])

    def morning(self, name):
        ware = self.wares[name]
        if ware["word"] == "put":
            _, step, grace, _, misses, keep, fine, _, _ = ware["rule"]
            if self.day == ware["due"] + grace + 1:
                if ware["missed"] == misses:
                    self.let_go(name, "gone", min(100, keep[ware["many"]] + fine))
                else:
                    ware["missed"] += 1
                    ware["due"] += step

    def house_word(self, *houses):
        if [house for house in houses if house not in self.rules]:
            return "none"
        if [house for house in houses if house in self.shut]:
            return "shut"
        return ""

    def ware_word(self, name, word):
        if name not in self.wares:
            return "none"
        return "" if self.wares[name]["word"] == word else "idle"

    def house_(self, house, text):
        if house in self.rules:
            return "taken"
        self.rules[house] = read_rule(text)

    def price_(self, house, kind, pence):
        if self.house_word(house):
            return self.house_word(house)
        ahead = self.prices.get((house, kind), 0)
        self.prices[house, kind] = pence
        for name in sorted(self.wares):
            ware = self.wares[name]
            if (ware["word"], ware["house"], ware["kind"]) == ("put", house, kind) and pence < ahead:
                if pence < ware["price"] and self.day <= ware["begin"] + ware["rule"][7]:
                    ware["price"] = pence
                    self.row(name, "price", ware["who"], pence)
                    if len(ware["coins"]) >= pence:
                        self.sell(name)

    def ware_(self, name, kind, house):
        if name in self.wares:
            return "taken"
        if self.house_word(house):
            return self.house_word(house)
        self.wares[name] = {"kind": kind, "house": house, "word": "free", "who": "", "rows": [], "kept": [], "coins": []}
        self.row(name, "new", house, 0)
        self.serve(name)

    def put_(self, house, kind, who):
        if self.house_word(house):
            return self.house_word(house)
        if (house, kind) not in self.prices:
            return "none"
        if self.free(house, kind):
            self.put_by(self.free(house, kind)[0], who)
        else:
            self.queues.append((house, kind, who))

    def pay_(self, name, who):
        if self.ware_word(name, "put"):
            return self.ware_word(name, "put")
        ware = self.wares[name]
        parts, step, _, last = ware["rule"][:4]
        left, over = parts - ware["many"], ware["price"] - len(ware["coins"])
        pence = -(-over // left)
        self.money.append((ware["house"], pence))
        ware["coins"] += [(ware["many"], who)] * pence
        ware["many"] += 1
        ware["due"] = (self.day if last else ware["due"]) + step
        self.row(name, "paid", who, pence)
        if ware["many"] == parts:
            self.sell(name)

    def up_(self, name):
        if self.ware_word(name, "put"):
            return self.ware_word(name, "put")
        ware = self.wares[name]
        self.let_go(name, "up", ware["rule"][5][ware["many"]])

    def leave_(self, house, kind, who):
        if (house, kind, who) not in self.queues:
            return "none"
        self.queues.remove((house, kind, who))

    def bring_(self, name):
        if self.ware_word(name, "sold"):
            return self.ware_word(name, "sold")
        ware = self.wares[name]
        if self.day > ware["sold_on"] + ware["rule"][8]:
            return "late"
        self.row(name, "brought", ware["who"], ware["price"])
        self.give_back(name, ware["price"])
        if ware["sold_in"] != ware["house"]:
            self.debts.append((ware["sold_in"], ware["house"], ware["price"]))
        self.set_free(name)

    def hand_(self, house, other):
        if self.house_word(house, other):
            return self.house_word(house, other)
        for name, ware in self.wares.items():
            if ware["house"] == house:
                ware["house"] = other
                paid = len(ware["coins"]) if ware["word"] == "put" else 0
                self.debts.append((house, other, paid))
                self.row(name, "handed", other, paid)
        for (told, kind), pence in list(self.prices.items()):
            if told == house:
                del self.prices[told, kind]
                self.prices.setdefault((other, kind), pence)
        self.queues = [place for place in self.queues if place[0] != house] + [
            (other, kind, who) for told, kind, who in self.queues if told == house]
        self.shut.append(house)
        for kind in sorted({place[1] for place in self.queues}):
            for name in self.free(other, kind):
                self.serve(name)

    def settle_(self, house, other, pence):
        if house not in self.rules or other not in self.rules:
            return "none"
        if pence > self.owed(house, other):
            return "much"
        self.debts.append((house, other, -pence))
        self.money += [(house, -pence), (other, pence)]

    def till(self, house):
        return sum(pence for told, pence in self.money if told == house)

    def owed(self, house, other):
        return sum(pence for one, two, pence in self.debts if (one, two) == (house, other))

    def sums(self):
        told = []
        for house in sorted(self.rules):
            paid = sum(len(ware["coins"]) for ware in self.wares.values()
                       if (ware["house"], ware["word"]) == (house, "put"))
            earned = sum(pence for ware in self.wares.values() for name, pence in ware["kept"] if name == house)
            earned += sum(ware["price"] for ware in self.wares.values()
                          if ware["word"] == "sold" and ware["sold_in"] == house)
            told.append((house, self.till(house), paid, earned, sum(self.owed(other, house) for other in self.rules),
                         sum(self.owed(house, other) for other in self.rules)))
        return told

    def people(self):
        rows = [row for ware in self.wares.values() for row in ware["rows"]]
        return [(who, sum(row[3] for row in rows if row[1:3] == ("paid", who)),
                 sum(row[3] for row in rows if row[1:3] == ("back", who)))
                for who in sorted({row[2] for row in rows if row[1] == "paid"})]

    def waits(self, house, kind):
        return [who for told, of, who in self.queues if (told, of) == (house, kind)]

    def fate(self, name):
        told = []
        for day, states in enumerate(self.states):
            if name in states:
                if told and told[-1][2:] == states[name]:
                    told[-1] = (told[-1][0], day, *states[name])
                else:
                    told.append((day, day, *states[name]))
        return told

    def stands(self):
        told = []
        for name in sorted(self.wares):
            ware = self.wares[name]
            if ware["word"] == "put":
                _, step, grace, _, misses = ware["rule"][:5]
                # Each day further on it is looked at whether it would be gone.
                due, missed, day = ware["due"], ware["missed"], self.day
                while not (day + 1 == due + grace + 1 and missed == misses):
                    day += 1
                    if day == due + grace + 1:
                        due, missed = due + step, missed + 1
                told.append((name, ware["who"], len(ware["coins"]), ware["price"], day))
        return told


HOUSES, KINDS, PEOPLE = ("inn", "mill", "hall", "fort"), ("cup", "jug"), ("ann", "bob", "cat", "dan")
WARES = ("wa", "wb", "wc", "wd", "we", "wf")


def random_rule_text(chance):
    """A rule's text; rules with grace are the likelier ones, so that wares aren't gone too soon."""
    parts = chance.randint(1, 4)
    clauses = [f"{parts} parts by {chance.randint(1, 6)} days"]
    clauses += [f"grace {chance.randint(1, 7)}"] * chance.choice((0, 1, 1))
    clauses += ["from last"] * chance.randint(0, 1)
    clauses += [f"misses {chance.randint(1, 2)}"] * chance.randint(0, 1)
    keep = [chance.randint(1, 99)] if parts == 1 or chance.random() < 0.5 else list(range(5, 5 + parts))
    clauses += ["keep " + " ".join(map(str, keep))] * chance.randint(0, 1)
    clauses += [f"fine {chance.choice((10, 100))}"] * chance.randint(0, 1)
    clauses += [f"falls {chance.choice((3, 20))}"] * chance.choice((0, 1, 1))
    clauses += [f"back {chance.choice((1, 5, 30))}"] * chance.choice((0, 1, 1))
    return ", ".join(clauses)


def any_deed(chance):
    """A deed of any names."""
    house, kind, who, ware = [chance.choice(things) for things in (HOUSES, KINDS, PEOPLE, WARES)]
    one, other = chance.sample(HOUSES, 2)
    price = chance.choice((1, 2, 7, 30, 61, 90, 100))
    return chance.choice((
        ("house", house, random_rule_text(chance)), ("price", house, kind, price), ("ware", ware, kind, house),
        ("put", house, kind, who), ("pay", ware, who), ("up", ware), ("leave", house, kind, who), ("bring", ware),
        ("hand", one, other), ("settle", one, other, chance.choice((1, 5, 20, 60))),
    ))


def doable_deeds(chance, book):
    """Deeds that can be done at the end of a SlowBook's days; some of them several times, as they are the likelier."""
    who, shown = chance.choice(PEOPLE), [house for house in book.rules if house not in book.shut]
    deeds = [("house", house, random_rule_text(chance)) for house in HOUSES if house not in book.rules]
    for house in shown:
        deeds += [("price", house, kind, chance.choice((1, 2, 7, 30, 61, 90, 100))) for kind in KINDS]
        deeds += [("ware", ware, chance.choice(KINDS), house) for ware in WARES if ware not in book.wares]
    deeds += [("hand", house, other) for house in shown for other in shown if house != other and len(shown) > 2][:1]
    deeds += [("put", house, kind, who) for house, kind in book.prices] * 2
    for name, ware in book.wares.items():
        deeds += [("pay", name, who)] * 5 + [("up", name)] if ware["word"] == "put" else []
        deeds += [("bring", name)] if ware["word"] == "sold" else []
    deeds += [("leave", *place) for place in book.queues][:2]
    owed = [(one, other, book.owed(one, other)) for one, other, _ in book.debts]
    deeds += [("settle", one, other, chance.randint(1, pence)) for one, other, pence in owed if pence > 0][:2]
    return deeds


def random_entries(chance, many):
    """Days and deeds, by rising days; most of them can be done."""
    entries, day = [], 0
    for number in range(many):
        day += chance.choice((0, 0, 0, 0, 1, 1, 2, 5)) if number > 8 else 0
        deed = any_deed(chance)
        if chance.random() < 0.9:
            deed = chance.choice(doable_deeds(chance, SlowBook(entries, day)) + [deed])
        entries.append((day, number, deed))
    return [(day, deed) for day, _, deed in entries]
