package frame

import "pelican/api"

// A frame's numbers, in the order in which they stand.
const (
	atKind = iota
	atUser
	atSess
	atCn
	atEpoch
	atCount
	atCmd
	atArg
	numbers // how many there are
)

// shape is how many bytes each number of a frame takes (0: it is none of its fields), and whether its tag stands behind them.
type shape struct {
	size [numbers]int
	tag  bool
}

// shapeOf is the shape of a kind's frames; none, if there is no such kind.
func shapeOf(kind int) (shape, bool) {
	s := shape{size: [numbers]int{atKind: 1}}
	switch kind {
	case api.FrHello:
		s.size[atUser], s.size[atCn] = 1, 8
	case api.FrAsk:
		s.size[atSess], s.size[atEpoch] = 8, 4
	case api.FrCmd, api.FrReply:
		s.size[atCount], s.size[atCmd], s.size[atArg] = 8, 1, 2
		// They bear a session and a tag, as a proof does.
		fallthrough
	case api.FrProof, api.FrOpen:
		s.size[atSess], s.tag = 8, true
	case api.FrNo:
		s.size[atCmd] = 1
	default:
		return shape{}, false
	}
	return s, true
}

// sizes are those of the numbers that are there, in order.
func (s shape) sizes() []int {
	var l []int
	for _, k := range s.size {
		if k > 0 {
			l = append(l, k)
		}
	}
	return l
}

// following is how many bytes follow those that tell it.
func (s shape) following() int {
	n := 0
	for _, k := range s.size {
		n += k
	}
	if s.tag {
		n += tagLen
	}
	return n
}

// isPlain tells it of a frame of that shape.
func isPlain(f api.Frame, s shape) bool {
	if !upTo(f.User, api.MaxUser) || !upTo(f.Epoch, api.MaxEpoch) || !upTo(f.Cmd, maxCmd) || !upTo(f.Arg, api.MaxArg) {
		return false
	}
	for i, n := range numbersOf(f) {
		if s.size[i] == 0 && n != 0 {
			return false
		}
	}
	return s.tag || f.Tag == api.Id{}
}

func upTo(n, most int) bool { return n >= 0 && n <= most }

// numbersOf are a frame's numbers, frameOf the frame of numbers and a tag.
func numbersOf(f api.Frame) [numbers]uint64 {
	return [numbers]uint64{
		atKind:  uint64(f.Kind),
		atUser:  uint64(f.User),
		atSess:  f.Sess,
		atCn:    f.Cn,
		atEpoch: uint64(f.Epoch),
		atCount: f.Count,
		atCmd:   uint64(f.Cmd),
		atArg:   uint64(f.Arg),
	}
}

func frameOf(ns [numbers]uint64, tag api.Id) api.Frame {
	return api.Frame{
		Kind:  int(ns[atKind]),
		User:  int(ns[atUser]),
		Sess:  ns[atSess],
		Cn:    ns[atCn],
		Epoch: int(ns[atEpoch]),
		Count: ns[atCount],
		Cmd:   int(ns[atCmd]),
		Arg:   int(ns[atArg]),
		Tag:   tag,
	}
}
