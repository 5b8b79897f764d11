"""Texts of systems with one unit that has about as many states as a unit may have, for the tests of what is too large."""

# 1,000 states, and a bad run of eight moves
FULL = """width 8
port S
field A 0 1 keep none raise 0 key K
key K 1
task a 1 1
read b S w means A
read a S w means A
read a S w means A
write S w 0 means A
task b 0 1
read b S w means A
write K w 1 means A
serve b 3
read b S w means A
task c 2 1
write K w 2 means A
read a S w means A"""
# 1,001 states
OVER = """width 8
port S
field A 0 1 keep store raise 0
key K 1 2 1
task a 2 0
write K w 2 means A
read b S w means A
read a S w means A
read a S w means A
task b 0 1
read a S w means A
write S w 2 means A
write S w 2 means A
write S w a 0 1 0 means A
task c 2 1
write S w 3 means A
write K w 2 means A"""
# many more states, and the first step is a bad run
VAST = """width 8
port R
field A 0 8 keep store drift 15
port S
field B 0 1 keep store still 1
task main 0 0
write S w 0
read a R w
write R w a 1 254 0 means A"""
