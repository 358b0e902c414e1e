package statics_test

import (
	"math/big"
	"math/rand"
	"testing"

	"putlog/api"
	"putlog/statics"
)

// isReply tells whether a reply is what the chapter says.
func isReply(f api.Frame, l []api.Load, reply api.Reply) bool {
	p := vectorOf(f, l)
	switch reply.Kind {
	case 0:
		return len(reply.Motion) == 0 && isBalanced(f, values(reply.Forces), p)
	case 1:
		u := values(reply.Motion)
		return len(reply.Forces) == 0 && isFree(f, u) && dot(p, u).Cmp(big.NewRat(1, 1)) == 0
	}
	return false
}

// P5.3: the bracket carries its load, and without a support the motion takes the work from another one.
func TestCarryOfBracket(t *testing.T) {
	reply, e := statics.Carry(theBracket(), theLoad())
	want(t, "Carry", reply, e, api.Reply{Forces: list(-3, 3, 9, 0, 0, -9, 0, 12, 0)}, api.OK)
	wantError(t, "CheckReply", statics.CheckReply(theBracket(), theLoad(), reply), api.OK)
	f, l := withoutSupport(theBracket(), 6), loads(load(2, 0, 5, 0))
	reply, e = statics.Carry(f, l)
	right := api.Reply{Kind: 1, Motion: list(0, 0, 0, 0, 0, 0, 0, 0, 0)}
	right.Motion[7] = r(1, 5)
	want(t, "Carry without a support", reply, e, right, api.OK)
	wantError(t, "CheckReply of the motion", statics.CheckReply(f, l, reply), api.OK)
}

// P5.3: basic solutions, and free motions, against their definitions.
func TestCarry(t *testing.T) {
	d := dice()
	kinds := [2]int{}
	for i := range 600 {
		f := someFrame(d, 6)
		l := someLoads(d, f, 3)
		if i%3 == 0 {
			l = carriedLoads(d, f)
		}
		reply, e := statics.Carry(f, l)
		x := solutionOf(matrixOf(f), scale(vectorOf(f, l), big.NewRat(-1, 1)), elements(f))
		if x != nil {
			want(t, "Carry", reply, e, api.Reply{Forces: ratsOf(x)}, api.OK)
		} else if !isReply(f, l, reply) || reply.Kind != 1 || e != api.OK {
			t.Errorf("Carry(%v, %v): %v, error %d", f, l, reply, e)
		}
		kinds[reply.Kind]++
	}
	if kinds[0] < 100 || kinds[1] < 100 {
		t.Errorf("kinds: %v", kinds)
	}
}

// P5.3: a frame with the most elements.
func TestCarryOfBigFrame(t *testing.T) {
	d := dice()
	f := bigFrame(d, 9)
	f.Supports = f.Supports[:31]
	l := carriedLoads(d, f)
	reply, e := statics.Carry(f, l)
	x := solutionOf(matrixOf(f), scale(vectorOf(f, l), big.NewRat(-1, 1)), elements(f))
	want(t, "Carry", reply, e, api.Reply{Forces: ratsOf(x)}, api.OK)
	wantError(t, "CheckReply", statics.CheckReply(f, l, reply), api.OK)
}

// otherReply is a reply that is almost the given one.
func otherReply(d *rand.Rand, reply api.Reply) api.Reply {
	some := list(0, 1)
	switch d.Intn(6) {
	case 0:
		reply.Kind = d.Intn(4) - 1
	case 1:
		if len(reply.Forces) > 0 {
			reply.Forces = changed(d, reply.Forces)
		}
		if len(reply.Motion) > 0 {
			reply.Motion = changed(d, reply.Motion)
		}
	case 2:
		reply.Forces = append(append([]api.Rat{}, reply.Forces...), r(0, 1))
	case 3:
		reply.Motion = append(append([]api.Rat{}, reply.Motion...), r(0, 1))
	case 4:
		reply.Forces, reply.Motion = reply.Motion, reply.Forces
	case 5:
		reply.Forces, reply.Motion = reply.Forces[:len(reply.Forces)/2], some[:d.Intn(3)]
	}
	return reply
}

// P5.3: CheckReply accepts all that is so, in any form, and nothing else.
func TestCheckReply(t *testing.T) {
	d := dice()
	accepted, refused := 0, 0
	for i := range 2000 {
		f := someFrame(d, 5)
		l := someLoads(d, f, 3)
		if i%3 == 0 {
			l = carriedLoads(d, f)
		}
		reply, _ := statics.Carry(f, l)
		// other forces and motions: with a stress, or a free motion on which the loads do no work
		by := big.NewRat(int64(d.Intn(5)-2), 3)
		if stresses := kernelOf(matrixOf(f), elements(f)); reply.Kind == 0 && len(stresses) > 0 {
			reply.Forces = ratsOf(plus(values(reply.Forces), scale(stresses[d.Intn(len(stresses))], by)))
		}
		if reply.Kind == 1 {
			motions := kernelOf(turned(matrixOf(f), elements(f)), places(f))
			u := plus(values(reply.Motion), scale(motions[d.Intn(len(motions))], by))
			if work := dot(u, vectorOf(f, l)); work.Sign() != 0 {
				reply.Motion = ratsOf(scale(u, work.Inv(work)))
			}
		}
		reply.Forces, reply.Motion = oddly(d, reply.Forces), oddly(d, reply.Motion)
		wantError(t, "CheckReply", statics.CheckReply(f, l, reply), api.OK)
		reply = otherReply(d, reply)
		right := api.OK
		if !isReply(f, l, reply) {
			right = api.ErrProof
			refused++
		} else {
			accepted++
		}
		wantError(t, "CheckReply of another one", statics.CheckReply(f, l, reply), right)
	}
	if accepted < 20 || refused < 100 {
		t.Errorf("accepted %d, refused %d", accepted, refused)
	}
}

// P5.3: loads without a force are carried, and there is nothing to move in a frame without nodes.
func TestCarryOfNothing(t *testing.T) {
	f := withoutSupport(theBracket(), 6)
	for _, l := range [][]api.Load{nil, loads(load(2, 0, 0, 0)), loads(load(2, 0, 5, 0), load(2, 0, -5, 0))} {
		reply, e := statics.Carry(f, l)
		want(t, "Carry", reply, e, api.Reply{Forces: list(0, 0, 0, 0, 0, 0, 0, 0)}, api.OK)
	}
	reply, e := statics.Carry(api.Frame{}, nil)
	want(t, "Carry without nodes", reply, e, api.Reply{}, api.OK)
	wantError(t, "CheckReply", statics.CheckReply(api.Frame{}, nil, api.Reply{}), api.OK)
	wantError(t, "CheckReply of Kind 1", statics.CheckReply(api.Frame{}, nil, api.Reply{Kind: 1}), api.ErrProof)
	node := api.Frame{Nodes: []api.Node{{}}}
	reply, e = statics.Carry(node, loads(load(0, 0, 4, 0)))
	want(t, "Carry of a node", reply, e, api.Reply{Kind: 1, Motion: []api.Rat{r(0, 1), r(1, 4), r(0, 1)}}, api.OK)
	// a motion that lengthens nothing, but moves a support
	held := api.Frame{Nodes: node.Nodes, Supports: []api.Support{rigid(0, 0)}}
	wantError(t, "CheckReply of a moved support", statics.CheckReply(held, loads(load(0, 0, 4, 0)), api.Reply{Kind: 1, Motion: []api.Rat{r(1, 1), r(1, 4), r(0, 1)}}), api.ErrProof)
}
