"""Custody leaders: they write the logs by which keys are led with custodians."""

from underwraps.courses import course_of
from underwraps.growth import facts_under
from underwraps.leaders import Leader
from underwraps.states import root_states


class CustodyLeader:
    """Writes the calls by which keys are led, those first that lead others over ties."""

    def __init__(self, growth):
        self.growth = growth
        self.leader = Leader(growth.given, {growth.grounds[tie].says: growth.grounds[tie] for tie in growth.grounds})

    def make_ready(self, ties):
        """Keep a key for each of some ties, as facts, that needs one."""
        for tie in ties:
            ground = self.leader.grounds[tie]
            if ground.word == "led" and ground.needs[0] not in self.leader.kept:
                pair = ground.needs[0][1:]
                # A tie is wanted for a key that elder ties lead: so this comes to an end.
                asked, many = self.growth.keepers[pair]
                self.leader.kept[ground.needs[0]] = self.bring(asked, many, pair)

    def bring(self, asked, many, states):
        """Lead a new key to some states, by so many of the ties; return it, and its spots there."""
        root, word = asked
        steps = course_of(self.growth.hulls(many), root_states(self.growth.given, root), word)
        goals = [(len(word), state) for state in states]
        places = facts_under(steps, goals)
        self.make_ready([tie_to(steps, place) for place in places if steps[place].word == "over"])
        base, firsts = self.leader.begin(root)
        spots = {(0, state): firsts[state] for state in firsts}
        for place in places:
            if place not in spots:
                spots[place] = self.come(steps[place], (base, word[:place[0]]), place[1], spots)
        return ((base, word), tuple([spots[goal] for goal in goals]))

    def come(self, step, key, state, spots):
        """Lead a key by a step to a state; return its spot there."""
        if step.word == "go":
            return self.leader.move(spots[step.needs[0]], key[1][-1], state)
        if step.word == "over":
            return self.leader.over(key, spots[step.needs[0]], ("tie", step.needs[0][1], state))
        for place, name in step.parts:
            self.leader.calls.append(("part", spots[place], name))
        return None if state == "known" else self.leader.new_handle(("join", key, state))


def tie_to(steps, place):
    """Return the tie, as a fact, over which a step leads to a place."""
    return ("tie", steps[place].needs[0][1], place[1])


def custody_log(growth, asked, state):
    """Return a custody log that brings an asked key to a state to which it is led."""
    writer = CustodyLeader(growth)
    writer.bring(asked, len(growth.grounds), (state,))
    return writer.leader.calls
