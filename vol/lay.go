package vol

import (
	"slices"

	"corncrib/api"
	"corncrib/disk"
	"corncrib/heads"
	"corncrib/index"
)

const (
	maxNumber = 1<<16 - 1
	maxEpoch  = 1<<31 - 1
	firstGen  = 1
)

// Make makes a volume without needles.
func Make(d *disk.Disk, number, most, epoch int) (*Vol, error) {
	if d == nil {
		return nil, api.ErrNil
	}
	if !can(number, most) || !epochCan(epoch) {
		return nil, api.ErrArg
	}
	data, _, manifest, _ := heads.Names(number, firstGen)
	if named(d, manifest) {
		return nil, api.ErrThere
	}
	super, err := heads.PutSuper(heads.Super{Volume: number, Gen: firstGen})
	if err != nil {
		return nil, err
	}
	if err := create(d, data, super); err != nil {
		return nil, err
	}
	m := heads.Manifest{Volume: number, Gen: firstGen, Epoch: epoch}
	if err := lay(d, m); err != nil {
		return nil, err
	}
	return &Vol{d: d, m: m, most: most, size: len(super), x: index.New(nil)}, nil
}

// Set gives the volume an epoch that isn't below its own, and seals it or opens
// it again.
func (v *Vol) Set(epoch int, sealed bool) error {
	if v == nil {
		return api.ErrNil
	}
	if !epochCan(epoch) {
		return api.ErrArg
	}
	if epoch < v.m.Epoch {
		return api.ErrStale
	}
	m := v.m
	m.Epoch, m.Sealed = epoch, sealed
	if err := lay(v.d, m); err != nil {
		return err
	}
	v.m = m
	return nil
}

// Commit makes the next generation's file, which is there whole, the volume's.
func (v *Vol) Commit(l []api.Pos, size int) error {
	if v == nil {
		return api.ErrNil
	}
	m := v.m
	m.Gen++
	data, _, _, _ := heads.Names(m.Volume, m.Gen)
	n, err := v.d.Size(data)
	if err != nil {
		return err
	}
	if n != size {
		return api.ErrArg
	}
	if err := lay(v.d, m); err != nil {
		return err
	}
	old := v.m
	v.m, v.size, v.x = m, size, index.New(l)
	return drop(v.d, old)
}

// drop removes the files of a generation that is the volume's no more.
func drop(d *disk.Disk, old heads.Manifest) error {
	data, point, _, _ := heads.Names(old.Volume, old.Gen)
	if err := d.Remove(data); err != nil {
		return err
	}
	if err := unname(d, point); err != nil {
		return err
	}
	return d.SyncNames()
}

// lay makes m the volume's manifest: whenever it crashes the manifest is the
// one that was there, or m, and whole.
func lay(d *disk.Disk, m heads.Manifest) error {
	b, err := heads.PutManifest(m)
	if err != nil {
		return err
	}
	_, _, manifest, shadow := heads.Names(m.Volume, m.Gen)
	if err := unname(d, shadow); err != nil {
		return err
	}
	if err := create(d, shadow, b); err != nil {
		return err
	}
	if err := d.Rename(shadow, manifest); err != nil {
		return err
	}
	return d.SyncNames()
}

// create makes a file of bytes that last; its name doesn't yet.
func create(d *disk.Disk, name string, b []byte) error {
	if err := d.Create(name); err != nil {
		return err
	}
	if err := d.Append(name, b); err != nil {
		return err
	}
	return d.Sync(name)
}

// unname removes a file, if it is there.
func unname(d *disk.Disk, name string) error {
	if !named(d, name) {
		return nil
	}
	return d.Remove(name)
}

// named tells whether a name is there.
func named(d *disk.Disk, name string) bool {
	return slices.Contains(d.Names(), name)
}

// can tells whether a volume may have this number, and so many bytes at most.
func can(number, most int) bool {
	return number >= 1 && number <= maxNumber && most >= heads.SuperSize && most <= api.MaxFile
}

// epochCan tells whether an epoch may be.
func epochCan(epoch int) bool {
	return epoch >= 0 && epoch <= maxEpoch
}
