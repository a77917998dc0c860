package cpu

import (
	"strconv"
	"testing"
)

// distances are how far the jumps of the tests go: to itself, to the next, forward, backward, and not by whole words.
var distances = []int64{0, 8, 16, -8, -16, 1, -1, 7, 1024, -1024, -1032, -1033, 248, -264, great, least}

// places are where they stand.
var places = []uint64{0, 256, here, 504, 1 << 31, top - 256, top - 8}

// goes fails the test unless an instruction goes to an address, with these registers, and changes just those.
func goes(t *testing.T, text string, pc uint64, before, after regs, to uint64) {
	t.Helper()
	s := with(ready(pc), before)
	quiet(t, text, s, code(t, pc, text), at(with(s, after), to), Outcome{})
}

// P14.1: each branch, taken and not taken, in all directions.
func TestBranches(t *testing.T) {
	for _, c := range []struct {
		a, b                uint64
		beq, bne, blt, bltu bool
	}{
		{0, 0, true, false, false, false},
		{5, 5, true, false, false, false},
		{5, 6, false, true, true, true},
		{6, 5, false, true, false, false},
		{most, most, true, false, false, false},
		{most, 0, false, true, true, false},
		{0, most, false, true, false, true},
		{most - 1, most, false, true, true, true},
		{most, most - 1, false, true, false, false},
		{sign, sign - 1, false, true, true, false},
		{sign - 1, sign, false, true, false, true},
		{sign, sign, true, false, false, false},
		{sign, most, false, true, true, true},
		{sign, 0, false, true, true, false},
		{0, sign, false, true, false, true},
		{5, 1<<32 + 5, false, true, true, true}, // equal in their low halves
		{1<<63 + 5, 5, false, true, true, false},
	} {
		for name, taken := range map[string]bool{"beq": c.beq, "bne": c.bne, "blt": c.blt, "bltu": c.bltu} {
			for _, d := range distances {
				text := name + " 1 2 " + strconv.FormatInt(d, 10)
				for _, pc := range places {
					to := pc + 8
					if taken {
						to = pc + uint64(d)
					}
					goes(t, text, pc, regs{1: c.a, 2: c.b}, nil, to)
				}
			}
		}
	}
}

// P14.1: branches whose registers are the same, and others than the first.
func TestBranchRegisters(t *testing.T) {
	for _, x := range []uint64{0, 1, sign, most} {
		goes(t, "beq 4 4 -24", here, regs{4: x}, nil, here-24)
		goes(t, "bne 4 4 -24", here, regs{4: x}, nil, here+8)
		goes(t, "blt 4 4 -24", here, regs{4: x}, nil, here+8)
		goes(t, "bltu 4 4 -24", here, regs{4: x}, nil, here+8)
	}
	goes(t, "beq 0 31 24", here, regs{0: 3, 31: 3}, nil, here+24)
	goes(t, "bne 31 0 24", here, regs{0: 3, 31: 4}, nil, here+24)
	goes(t, "blt 31 0 24", here, regs{0: 3, 31: most}, nil, here+24)
	goes(t, "bltu 0 31 24", here, regs{0: 3, 31: most}, nil, here+24)
}

// P14.1: a Pc that goes over 64 bits.
func TestPcGoesRound(t *testing.T) {
	goes(t, "jmp -8", 0, nil, nil, most-7)
	goes(t, "jmp -1033", here, nil, nil, most)
	goes(t, "beq 1 1 -1040", here, nil, nil, most-7)
	goes(t, "call 1 -1033", here, nil, regs{1: here + 8}, most)
	goes(t, "jmp -2147483648", 0, nil, nil, below)
}

// P14.1: jmp and call, in all directions.
func TestJumps(t *testing.T) {
	for _, d := range distances {
		imm := strconv.FormatInt(d, 10)
		for _, pc := range places {
			goes(t, "jmp "+imm, pc, nil, nil, pc+uint64(d))
			for _, a := range []int{0, 1, 30, 31} {
				goes(t, "call "+strconv.Itoa(a)+" "+imm, pc, nil, regs{a: pc + 8}, pc+uint64(d))
			}
		}
	}
}

// P14.1: jr and callr go anywhere, also to where no instruction may stand; callr takes both previous values.
func TestJumpsToRegisters(t *testing.T) {
	for _, to := range []uint64{0, 8, 256, here, here + 8, here + 1, top - 8, top, 5, sign, most} {
		for _, pc := range places {
			goes(t, "jr 1", pc, regs{1: to}, nil, to)
			goes(t, "jr 31", pc, regs{31: to}, nil, to)
			goes(t, "callr 2 1", pc, regs{1: to}, regs{2: pc + 8}, to)
			goes(t, "callr 0 31", pc, regs{31: to}, regs{0: pc + 8}, to)
			goes(t, "callr 1 1", pc, regs{1: to}, regs{1: pc + 8}, to)
		}
	}
}

// P14.1: a call, its return, and what stands behind them, as steps one behind the other.
func TestCallAndReturn(t *testing.T) {
	m := code(t, 1024, "call 5 24, movi 1 7, trap 3, movi 2 8, jr 5")
	s := ready(1024)
	for _, want := range []struct {
		after regs
		pc    uint64
		o     Outcome
	}{
		{regs{5: 1032}, 1048, Outcome{}},
		{regs{2: 8}, 1056, Outcome{}},
		{nil, 1032, Outcome{}},
		{regs{1: 7}, 1040, Outcome{}},
		{nil, 1048, Outcome{Kind: Trap, At: 3}},
	} {
		next := at(with(s, want.after), want.pc)
		quiet(t, "call and return", s, m, next, want.o)
		s = next
	}
}
