"""The desk: it is told rows, one at a time, and answers each with a text."""

from postroad.days import Day
from postroad.errors import BadBag, NoDay, NoRow
from postroad.flows import most
from postroad.kinds import is_written_number
from postroad.least import least
from postroad.letters import MOST_TURN, letters_of
from postroad.net import Net
from postroad.plans import arrivals
from postroad.runs import run
from postroad.several import bounds
from postroad.texts import read_plan, show_plan
from postroad.ways import Ways, shortest


def as_text(word):
    return word


def as_number(word):
    if not is_written_number(word):
        raise NoRow("a number is written with one to ten figures, without noughts ahead")
    return int(word)


def as_first_turn(word):
    turn = as_number(word)
    if turn > MOST_TURN:
        raise NoRow("a day begins at a turn up to 1000000000")
    return turn


def as_road_or_none(word):
    if word == "-":
        return None
    return as_number(word)


# The row's first word, and how each word behind it is read.
FORMS = {
    "house": (as_text,),
    "road": (as_text, as_text, as_number, as_number),
    "letter": (as_text, as_text, as_number),
    "way": (as_text, as_text, as_road_or_none),
    "shortest": (),
    "day": (as_first_turn,),
    "far": (as_text, as_text),
    "route": (as_text, as_text),
    "run": (),
    "home": (),
    "check": (as_text,),
    "most": (as_number,),
    "least": (),
    "bounds": (),
    "post": (as_text, as_text),
    "pass": (),
    "turn": (),
    "spot": (as_number,),
    "shut": (as_number,),
    "reopen": (as_number,),
    "log": (),
}


def words_of(row):
    # What stands behind the first blank of a check is one text, whatever
    # blanks it has.
    if row.startswith("check "):
        return ["check", row[len("check "):]]
    words = row.split(" ")
    if "" in words:
        raise NoRow("the words of a row are parted by single blanks")
    return words


def values_of(words):
    if words[0] not in FORMS:
        raise NoRow("no row begins with this word")
    form = FORMS[words[0]]
    if len(words) - 1 != len(form):
        raise NoRow("the row has too few or too many words")
    return [read(word) for read, word in zip(form, words[1:])]


def number_or_dash(number):
    return "-" if number is None else str(number)


def with_blanks(numbers):
    return " ".join([number_or_dash(number) for number in numbers])


def take_house(desk, values):
    desk.change_net(Net(desk.net.houses() + values, desk.net.roads()))
    return "ok"


def take_road(desk, values):
    roads = desk.net.roads()
    desk.change_net(Net(desk.net.houses(), roads + [tuple(values)]))
    return str(len(roads))


def take_letter(desk, values):
    letter = (values[0], values[2], values[1])
    desk.kept_letters = letters_of(desk.net, desk.kept_letters + [letter])
    return str(len(desk.kept_letters) - 1)


def take_way(desk, values):
    if values[2] is None:
        desk.ways.drop_way(values[0], values[1])
    else:
        desk.ways.set_way(values[0], values[1], values[2])
    return "ok"


def take_shortest(desk, values):
    desk.ways = shortest(desk.net)
    return "ok"


def take_day(desk, values):
    desk.day = Day(desk.net, values[0])
    return "ok"


def tell_far(desk, values):
    return number_or_dash(desk.net.far(values[0], values[1]))


def tell_route(desk, values):
    return with_blanks(desk.ways.route(values[0], values[1]))


def tell_run(desk, values):
    return show_plan(run(desk.net, desk.kept_letters, desk.ways))


def tell_home(desk, values):
    return with_blanks(arrivals(desk.net, desk.kept_letters, run(desk.net, desk.kept_letters, desk.ways)))


def tell_check(desk, values):
    plan = read_plan(values[0])
    try:
        turns = arrivals(desk.net, desk.kept_letters, plan)
    except BadBag as error:
        return "bad " + str(error.place) + " " + error.reason
    return with_blanks(turns)


def tell_most(desk, values):
    return str(most(desk.net, desk.kept_letters, values[0])[0])


def tell_least(desk, values):
    return str(least(desk.net, desk.kept_letters)[0])


def tell_bounds(desk, values):
    return with_blanks(bounds(desk.net, desk.kept_letters)[:2])


def day_post(day, values):
    return str(day.post(values[0], values[1]))


def day_pass(day, values):
    return show_plan(day.pass_turn())


def day_turn(day, values):
    return str(day.now())


def day_spot(day, values):
    return day.spot(values[0]).line()


def day_shut(day, values):
    day.shut(values[0])
    return "ok"


def day_reopen(day, values):
    day.reopen(values[0])
    return "ok"


def day_log(day, values):
    return show_plan(day.log())


DESK_ANSWERS = {
    "house": take_house,
    "road": take_road,
    "letter": take_letter,
    "way": take_way,
    "shortest": take_shortest,
    "day": take_day,
    "far": tell_far,
    "route": tell_route,
    "run": tell_run,
    "home": tell_home,
    "check": tell_check,
    "most": tell_most,
    "least": tell_least,
    "bounds": tell_bounds,
}

DAY_ANSWERS = {
    "post": day_post,
    "pass": day_pass,
    "turn": day_turn,
    "spot": day_spot,
    "shut": day_shut,
    "reopen": day_reopen,
    "log": day_log,
}


class Desk:
    def __init__(self):
        self.net = Net([], [])
        self.kept_letters = []
        self.ways = Ways(self.net)
        self.day = None

    def say(self, row):
        words = words_of(row)
        values = values_of(words)
        if words[0] in DESK_ANSWERS:
            return DESK_ANSWERS[words[0]](self, values)
        if self.day is None:
            raise NoDay("no day has begun")
        return DAY_ANSWERS[words[0]](self.day, values)

    def change_net(self, net):
        # Houses and roads only come, behind those that are there: so each way
        # is one of the new net, too. The day keeps the net that it began with.
        ways = Ways(net)
        for pair in self.ways.pairs():
            ways.set_way(pair[0], pair[1], pair[2])
        self.net = net
        self.ways = ways
