"""The texts of the known protocols ([1.4])."""

TWO_ROUNDS = """leader
state
on able send ask members go 1
on unable force dropped send drop members go 3
state
on each yes force kept send keep members go 2
on some no force dropped send drop members go 3
on timer force dropped send drop members go 3
state kept
on some what send keep members go 2
state dropped
on some what send drop members go 3
up 3
up dropped 3
up kept 2
member
state
on some ask go 1
on unable force dropped send no leader go 3
state
on able force yes send yes leader go 2
on unable force dropped send no leader go 3
state
on some keep force kept go 4
on some drop force dropped go 3
on timer send what leader go 2
state dropped
state kept
up 3
up dropped 3
up kept 4
up yes 2"""

ONE_ROUND = """leader
state
on able force kept send keep members go 1
on unable force dropped send drop members go 2
state kept
state dropped
up 2
up dropped 2
up kept 1
member
state
on some keep force kept go 1
on some drop force dropped go 2
on unable force dropped go 2
state kept
state dropped
up 0
up dropped 2
up kept 1"""
