// Package fill gives a file on the disk new bytes as a whole: it is what chapter 6.1 calls to fill a file.
package fill

import (
	"tether/api"
	"tether/disk"
)

// besideEnd stands behind a file's path in the path of the file that is written beside it.
const besideEnd = "_t"

// File makes a file's bytes these in one step, the last one: a stop ahead of it leaves the file as it was.
func File(d *disk.Disk, p, data string) api.Errno {
	beside := p + besideEnd
	if e := d.Write(beside, data); e != api.OK {
		return e
	}
	// What isn't synced could be lost behind the rename, which would lose the old bytes as well.
	if e := d.Sync(beside); e != api.OK {
		return e
	}
	return d.Rename(beside, p)
}
