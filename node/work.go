package node

import (
	"corncrib/api"
	"corncrib/ckpt"
	"corncrib/compact"
	"corncrib/disk"
)

// The kinds of work.
const (
	checkpoint = iota + 1
	compaction
)

// stepper is work that is under way.
type stepper interface {
	Step() (done bool, err error)
}

// Work does a step of a checkpoint (1) or a compaction (2) of a volume.
func (n *Node) Work(kind, volume int) (done bool, err error) {
	if err := n.serves(); err != nil {
		return false, err
	}
	if kind != checkpoint && kind != compaction {
		return false, api.ErrArg
	}
	h, there := n.vols[volume]
	if !there {
		return false, api.ErrNone
	}
	done, err = h.step(n.d, kind)
	if !n.Up() {
		return false, api.ErrDown
	}
	return done, err
}

// step does a step of what is under way of a kind; if nothing is it begins.
func (h *held) step(d *disk.Disk, kind int) (done bool, err error) {
	w, under := h.work[kind]
	if !under {
		if w, err = h.begin(d, kind); err != nil {
			return false, err
		}
		h.work[kind] = w
	}
	done, err = w.Step()
	if done || err != nil {
		delete(h.work, kind)
	}
	return done, err
}

// begin tells work of a kind ahead of its first step.
func (h *held) begin(d *disk.Disk, kind int) (stepper, error) {
	if kind == checkpoint {
		return ckpt.New(d, h.v)
	}
	return compact.New(d, h.v)
}
